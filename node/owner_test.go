package node_test

import (
	"strings"
	"testing"

	"isogloss/node"
)

// checkOwner holds whose a key is.
func checkOwner(t *testing.T, key string, nodes, want int) {
	t.Helper()
	if slow := slowOwner(key, nodes); slow != want {
		t.Fatalf("the slow owner of %q, of %d: %d, not %d", short(key), nodes, slow, want)
	}
	if got := node.Owner(key, nodes); got != want {
		t.Errorf("Owner(%q, %d): %d, not %d", short(key), nodes, got, want)
	}
}

// P15 (Words): written out: of no bytes, and of some first bytes, of 1 to 5 nodes.
func TestOwner(t *testing.T) {
	for key, want := range map[string][5]int{
		"":     {0, 0, 0, 0, 0},
		"\x00": {0, 0, 0, 0, 0},
		"\x33": {0, 0, 0, 0, 0},
		"\x34": {0, 0, 0, 0, 1},
		"\x3f": {0, 0, 0, 0, 1},
		"\x40": {0, 0, 0, 1, 1},
		"\x55": {0, 0, 0, 1, 1},
		"\x56": {0, 0, 1, 1, 1},
		"k":    {0, 0, 1, 1, 2},
		"z":    {0, 0, 1, 1, 2},
		"\x7f": {0, 0, 1, 1, 2},
		"\x80": {0, 1, 1, 2, 2},
		"\xaa": {0, 1, 1, 2, 3},
		"\xab": {0, 1, 2, 2, 3},
		"\xbf": {0, 1, 2, 2, 3},
		"\xc0": {0, 1, 2, 3, 3},
		"\xcc": {0, 1, 2, 3, 3},
		"\xcd": {0, 1, 2, 3, 4},
		"\xff": {0, 1, 2, 3, 4},
	} {
		for i, owner := range want {
			for _, rest := range []string{"", "\x00", "\xff", "key", strings.Repeat("\xff", 500)} {
				if key != "" {
					checkOwner(t, key+rest, i+1, owner)
				}
			}
			checkOwner(t, key, i+1, owner)
		}
	}
}

// P15 (Words): each bound between two nodes, of up to 300 of them: the first byte that is a node's, and the one ahead of it.
func TestOwnerBounds(t *testing.T) {
	for nodes := 1; nodes <= 300; nodes++ {
		at := 0
		for first := range 256 {
			for at+1 <= first*nodes/256 {
				at++
			}
			checkOwner(t, string([]byte{byte(first)}), nodes, at)
		}
	}
}

// R1, P15 (Words): of whatever numbers of nodes none panics, and the product doesn't go around.
func TestOwnerWhatever(t *testing.T) {
	for _, nodes := range []int{leastInt, leastInt + 1, -1 << 56, -1<<55 - 1, -257, -256, -255, -2, -1, 0, 6, 255, 256, 257, 1 << 32, 1<<55 - 1, 1 << 55, 1<<56 + 3, 1 << 62, mostInt - 1, mostInt} {
		for _, first := range []int{0, 1, 2, 127, 128, 254, 255} {
			key := string([]byte{byte(first)}) + "key"
			checkOwner(t, key, nodes, slowOwner(key, nodes))
		}
		checkOwner(t, "", nodes, 0)
	}
}
