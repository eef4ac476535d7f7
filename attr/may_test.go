package attr_test

import (
	"math"
	"slices"
	"testing"

	"coracle/attr"
)

const (
	owner = 5
	group = 6
	other = 9
)

// caller is one, with the place in a Mode of the bits that are looked at for him.
type caller struct {
	uid, gid int
	groups   []int
	from     int
}

var callers = []caller{
	{owner, other, nil, 6},
	{owner, group, []int{group}, 6}, // the owner, though he is of the group too
	{other, group, nil, 3},
	{other, other, []int{group}, 3},
	{other, other, []int{1, 0, group}, 3},
	{other, group, []int{1, 2}, 3},
	{other, other, nil, 0},
	{other, other, []int{}, 0},
	{other, other, []int{1, owner, -group}, 0}, // a group that has the owner's number
	{group, owner, nil, 0},                     // the numbers the other way round
	{other, 0, []int{0}, 0},                    // group 0 is one as the others
	{-1, -1, []int{-1}, 0},
}

func file(mode int) attr.Attr {
	return attr.Attr{Kind: attr.Reg, Mode: mode, UID: owner, GID: group}
}

// P9.3: the example, and the sorts of callers at Modes that tell them apart.
func TestMay(t *testing.T) {
	for _, c := range []struct {
		mode                  int
		bits                  int
		theOwner, his, others bool
	}{
		{0640, 4, true, true, false},
		{0640, 2, true, false, false},
		{0640, 6, true, false, false},
		{0640, 1, false, false, false},
		{0640, 0, true, true, true},
		{0077, 4, false, true, true}, // the owner has his own bits alone
		{0707, 7, true, false, true}, // so has the group
		{0007, 1, false, false, true},
		{0000, 0, true, true, true},
		{0777, 7, true, true, true},
	} {
		a := file(c.mode)
		if attr.May(a, owner, other, nil, c.bits) != c.theOwner {
			t.Errorf("%o: the owner, %d", c.mode, c.bits)
		}
		if attr.May(a, other, group, nil, c.bits) != c.his || attr.May(a, other, other, []int{group}, c.bits) != c.his {
			t.Errorf("%o: the group, %d", c.mode, c.bits)
		}
		if attr.May(a, other, other, nil, c.bits) != c.others {
			t.Errorf("%o: others, %d", c.mode, c.bits)
		}
	}
}

// P9.3: all Modes and all bits, bit by bit.
func TestMayAll(t *testing.T) {
	for mode := range 01000 {
		for bits := range 8 {
			for _, c := range callers {
				want := true
				for b := range 3 {
					if bits>>b&1 == 1 && mode>>(c.from+b)&1 == 0 {
						want = false
					}
				}
				if attr.May(file(mode), c.uid, c.gid, c.groups, bits) != want {
					t.Errorf("Mode %o, %v, bits %d: not %v", mode, c, bits, want)
				}
			}
		}
	}
}

// P9.3: uid 0 may all, whoever else he is.
func TestMayRoot(t *testing.T) {
	for _, a := range []attr.Attr{{}, file(0), file(0777), {UID: 0, Mode: 0077}, {UID: 5, GID: 0, Mode: 0707}} {
		for _, bits := range []int{0, 1, 2, 4, 7, 8, -1, math.MaxInt, math.MinInt} {
			if !attr.May(a, 0, 0, nil, bits) || !attr.May(a, 0, group, []int{1}, bits) {
				t.Errorf("%v: uid 0 may not %d", a, bits)
			}
		}
	}
	if attr.May(attr.Attr{GID: 0}, 1, 0, nil, 4) {
		t.Error("gid 0 isn't uid 0")
	}
}

// P9.3: of bits the lowest three are looked at alone, and of Mode three alone.
func TestMayOtherBits(t *testing.T) {
	for _, c := range callers {
		if !attr.May(file(0), c.uid, c.gid, c.groups, 8) || !attr.May(file(0), c.uid, c.gid, c.groups, -8) || !attr.May(file(0), c.uid, c.gid, c.groups, math.MinInt) {
			t.Errorf("%v: higher bits are looked at", c)
		}
		if attr.May(file(0), c.uid, c.gid, c.groups, 9) || attr.May(file(0), c.uid, c.gid, c.groups, -1) || attr.May(file(0), c.uid, c.gid, c.groups, math.MaxInt) {
			t.Errorf("%v: the lowest bits aren't looked at", c)
		}
		if attr.May(file(^0777), c.uid, c.gid, c.groups, 1) || attr.May(file(07000), c.uid, c.gid, c.groups, 4) {
			t.Errorf("%v: higher bits of Mode are looked at", c)
		}
		if !attr.May(file(-1), c.uid, c.gid, c.groups, -1) || !attr.May(file(math.MaxInt), c.uid, c.gid, c.groups, 7) {
			t.Errorf("%v: all bits of Mode are set", c)
		}
		if attr.May(file(0777&^(7<<c.from)), c.uid, c.gid, c.groups, 1) || !attr.May(file(7<<c.from), c.uid, c.gid, c.groups, 7) {
			t.Errorf("%v: bits of another sort of callers are looked at", c)
		}
	}
}

// The groups are left as they are.
func TestMayGroups(t *testing.T) {
	groups := []int{9, 8, group, 1}
	attr.May(file(0640), other, other, groups, 4)
	if !slices.Equal(groups, []int{9, 8, group, 1}) {
		t.Errorf("groups: %v", groups)
	}
}
