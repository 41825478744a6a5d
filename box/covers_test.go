package box

import (
	"fmt"
	"testing"

	"cincture/rat"
	"cincture/span"
)

func TestCoversByText(t *testing.T) { // P603
	for _, c := range []struct {
		b, l string
		want bool
	}{
		{"0 1", "0 1", true}, {"0 1", "-1 2", true}, {"0 1", "0 1/2; 1/2 1", true}, {"0 1", "1/2 1; 0 1/2", true}, {"0 1", "0 1/2; 3/4 1", false}, {"0 1", "0 1/2", false}, {"0 1", "1/2 1", false}, {"0 1", "1/4 3/4", false}, {"0 1", "1 2; -1 0", false},
		{"0 1", "2 3; -3 -2", false}, {"0 1", "2 3; 0 1; -3 -2", true}, {"0 1, 0 1", "2 3, 0 1; 0 1, 2 3; -3 -2, 0 1; 0 1, -3 -2", false}, {"0 1, 0 1", "2 3, 2 3; 0 1, 0 1; -3 -2, -3 -2", true},
		// what is the wrong way round has nothing, not even what lies between its ends
		{"0 1", "0 1/4; 3/4 1/4; 3/4 1", false}, {"0 1", "3/4 1/4; 0 1", true}, {"0 1, 0 1", "0 1/4, 0 1; 3/4 1/4, 0 1; 3/4 1, 0 1", false}, {"0 1, 0 1", "0 1, 1/2 1; 3/4 1/4, 0 1/2; 1 0, 0 1/2", false}, {"0 1", "0 1/2; 1/2 1/2; 3/4 1", false},
		{"0 1", "0 2/3; 1/3 1", true}, {"0 1", "0 1/3; 2/3 1; 1/4 3/4", true}, {"0 1", "0 1/3; 1/2 1", false}, {"0 1", "-5 1/3; 1/3 5", true}, {"1/3 2/3", "0 1/2; 1/2 1", true},
		{"0 1", "0 1/2; 18446744073709551615/36893488147419103232 1", true}, {"0 1", "0 1/2; 18446744073709551617/36893488147419103232 1", false}, {"0 1", "1/18446744073709551616 1", false}, {"0 1", "0 18446744073709551615/18446744073709551616", false},
		{"0 2, 0 2", "0 1, 0 2; 1 2, 0 2", true}, {"0 2, 0 2", "0 2, 0 1; 0 2, 1 2", true}, {"0 2, 0 2", "0 1, 0 1; 1 2, 1 2", false}, {"0 2, 0 2", "0 1, 0 1; 1 2, 0 1; 0 1, 1 2", false}, {"0 2, 0 2", "0 1, 0 1; 1 2, 0 1; 0 1, 1 2; 1 2, 1 2", true}, {"0 2, 0 2", "-1 1, -1 3; 1 3, -1 3", true},
		// a ring, and what it is round
		{"0 3, 0 3", "0 2, 0 1; 2 3, 0 2; 1 3, 2 3; 0 1, 1 3", false}, {"0 3, 0 3", "0 2, 0 1; 2 3, 0 2; 1 3, 2 3; 0 1, 1 3; 1 2, 1 2", true}, {"0 3, 0 3", "0 2, 0 1; 2 3, 0 2; 1 3, 2 3; 0 1, 1 3; 1 2, 1 3/2", false}, {"1 2, 1 2", "0 2, 0 1; 2 3, 0 2; 1 3, 2 3; 0 1, 1 3", false},
		// steps, each of which is laid bare by the one ahead of it
		{"0 4, 0 4", "0 4, 0 1; 0 1, 1 4; 1 4, 1 2; 1 2, 2 4; 2 4, 2 3; 2 3, 3 4; 3 4, 3 4", true}, {"0 4, 0 4", "0 4, 0 1; 0 1, 1 4; 1 4, 1 2; 1 2, 2 4; 2 4, 2 3; 2 3, 3 4", false},
		{"0 1, 0 1, 0 1", "0 1, 0 1, 0 1/2; 0 1, 0 1, 1/2 1", true}, {"0 1, 0 1, 0 1", "0 1, 0 1/2, 0 1; 0 1, 1/2 1, 0 1", true}, {"0 1, 0 1, 0 1", "0 1/2, 0 1, 0 1; 1/2 1, 0 1, 1/2 1", false},
		// three layers that cross, and the corner that they leave
		{"0 2, 0 2, 0 2", "0 1, 0 2, 0 2; 0 2, 0 1, 0 2; 0 2, 0 2, 0 1", false}, {"0 2, 0 2, 0 2", "0 1, 0 2, 0 2; 0 2, 0 1, 0 2; 0 2, 0 2, 0 1; 1 2, 1 2, 1 2", true},
		// three beams that go past one another, and the corners
		{"0 2, 0 2, 0 2", "0 2, 0 1, 0 1; 0 1, 1 2, 0 2; 1 2, 0 2, 1 2", false}, {"0 2, 0 2, 0 2", "0 2, 0 1, 0 1; 0 1, 1 2, 0 2; 1 2, 0 2, 1 2; 0 1, 0 1, 1 2; 1 2, 1 2, 0 1", true},
	} {
		isSame(t, c.b+" by "+c.l, Covers(from(t, c.b), boxes(t, c.l)), c.want)
	}
}

func TestCoversByHalves(t *testing.T) { // P603
	for _, s := range []string{"0 1", "-1/3 5, 0 1", "0 1, -7 2, 1/4 1/2"} {
		b := from(t, s)
		for i := range b {
			low, high, _ := Split(b, i)
			isSame(t, s, Covers(b, []Box{low, high}), true)
			isSame(t, s, Covers(b, []Box{low}), false)
			isSame(t, s, Covers(b, []Box{high, high}), false)
		}
		isSame(t, s, Covers(b, nil), false)
		isSame(t, s, Covers(b, []Box{}), false)
	}
}

// Boxes that are not Right, or of another number of sides, have no points, and are in nobody's way.
func TestCoversPassesOver(t *testing.T) { // P603
	right := boxes(t, "-9 9; -9 9, -9 9; -9 9, -9 9, -9 9")
	for _, b := range boxes(t, "0 1; 0 1, 0 1; 0 1, 0 1, 0 1") {
		var l []Box
		for _, x := range append(wrong(t), right...) {
			if len(x) != len(b) || !Right(x) {
				l = append(l, x)
			}
		}
		isSame(t, text(b), Covers(b, l), false)
		low, high, _ := Split(b, 0)
		isSame(t, text(b), Covers(b, append(l, low)), false)
		isSame(t, text(b), Covers(b, append(append([]Box{high}, l...), low)), true)
	}
	for _, b := range wrong(t) {
		isSame(t, text(b), Covers(b, append(right, b)), false)
		isSame(t, text(b), Covers(b, nil), false)
	}
}

func TestCoversChangesNothing(t *testing.T) { // P603
	b, l := from(t, "0 2, 0 2"), boxes(t, "1 2, 0 2; 5 4; 0 1, 0 3; -1 1, -1 1")
	isSame(t, "Covers", Covers(b, l), true)
	isSame(t, "b", text(b), "0 2, 0 2")
	for i, want := range []string{"1 2, 0 2", "5 4", "0 1, 0 3", "-1 1, -1 1"} {
		isSame(t, "l", text(l[i]), want)
	}
}

// room is a box whose ends are whole numbers; of sides beyond those that count it has 0 to 1.
type room [3][2]int

// box is the room's first sides, in parts of a whole, so that ends are not whole numbers, nor dyadic.
func (x room) box(sides, parts int) Box {
	var b Box
	for _, ends := range x[:sides] {
		lo, _ := rat.Div(rat.Of(int64(ends[0])), rat.Of(int64(parts)))
		hi, _ := rat.Div(rat.Of(int64(ends[1])), rat.Of(int64(parts)))
		b = append(b, span.Span{Lo: lo, Hi: hi})
	}
	return b
}

func (x room) has(p [3]int) bool {
	for i, at := range p {
		if at < x[i][0] || at >= x[i][1] {
			return false
		}
	}
	return true
}

// filled tells by each cell of side 1 whether l has all of a room.
func filled(x room, l []room) bool {
	for i := x[0][0]; i < x[0][1]; i++ {
		for j := x[1][0]; j < x[1][1]; j++ {
			for k := x[2][0]; k < x[2][1]; k++ {
				if !anyHas(l, [3]int{i, j, k}) {
					return false
				}
			}
		}
	}
	return true
}

func anyHas(l []room, p [3]int) bool {
	for _, x := range l {
		if x.has(p) {
			return true
		}
	}
	return false
}

// divide cuts rooms at one place or another, till there are so many, or none can be cut.
func (s *source) divide(x room, sides, many int) []room {
	l := []room{x}
	for range 20 * many {
		if len(l) >= many {
			break
		}
		k, i := s.below(len(l)), s.below(sides)
		lo, hi := l[k][i][0], l[k][i][1]
		if hi-lo < 2 {
			continue
		}
		at := lo + 1 + s.below(hi-lo-1)
		rest := l[k]
		l[k][i][1], rest[i][0] = at, at
		l = append(l, rest)
	}
	return l
}

// grow moves some ends outwards, and so lays rooms over one another.
func (s *source) grow(l []room, sides int) {
	for k := range l {
		if s.below(3) == 0 {
			i := s.below(sides)
			l[k][i][0] -= s.below(3)
			l[k][i][1] += s.below(3)
		}
	}
}

// shuffle brings l into another order.
func (s *source) shuffle(l []room) {
	for i := range l {
		k := s.below(i + 1)
		l[i], l[k] = l[k], l[i]
	}
}

// cover asks Covers of rooms.
func cover(x room, l []room, sides, parts int) bool {
	var all []Box
	for _, one := range l {
		all = append(all, one.box(sides, parts))
	}
	return Covers(x.box(sides, parts), all)
}

// Rooms that are divided, some of them grown, one or two away: cell by cell it shows whether the rest has all.
func TestCoversByCells(t *testing.T) { // P603
	s := source(6)
	told := map[bool]int{}
	for round := range 1500 {
		sides := 1 + round%3
		wide := []int{40, 14, 8}[sides-1]
		x := room{{0, 1}, {0, 1}, {0, 1}}
		for i := range sides {
			x[i][1] = 1 + s.below(wide)
			x[i][0] = -s.below(3)
		}
		l := s.divide(x, sides, 1+s.below(60))
		s.grow(l, sides)
		s.shuffle(l)
		l = l[min(s.below(3), len(l)-1):]
		want := filled(x, l)
		told[want]++
		if got := cover(x, l, sides, 1+s.below(6)); got != want {
			t.Fatalf("round %d: %v by %v: %v", round, x, l, got)
		}
	}
	if told[true] < 300 || told[false] < 300 {
		t.Errorf("too much alike: %v", told)
	}
}

// Layers, beams and rooms that go every way, and those that fill what they leave: no plan at all.
func TestCoversByCellsOfAnyRooms(t *testing.T) { // P603
	s := source(66)
	told := map[bool]int{}
	for round := range 1500 {
		sides := 2 + round%2
		x := room{{0, 7}, {0, 7}, {0, 1}}
		if sides == 3 {
			x[2][1] = 6
		}
		l := make([]room, 5+s.below(20))
		for k := range l {
			l[k] = x
			for i := range sides {
				if s.below(3) > 0 {
					lo := s.below(x[i][1])
					l[k][i] = [2]int{lo, lo + 1 + s.below(x[i][1]-lo+1)}
				}
			}
		}
		want := filled(x, l)
		told[want]++
		if got := cover(x, l, sides, 1+s.below(4)); got != want {
			t.Fatalf("round %d: %v by %v: %v", round, x, l, got)
		}
	}
	if told[true] < 150 || told[false] < 150 {
		t.Errorf("too much alike: %v", told)
	}
}

// Of many boxes none is one too many: each that is taken away is missed. A grid of all their ends had more cells than could be gone through.
func TestCoversOfMany(t *testing.T) { // P603
	s := source(666)
	for sides := 1; sides <= 3; sides++ {
		x := room{{0, 1}, {0, 1}, {0, 1}}
		for i := range sides {
			x[i][1] = 1 << 20
		}
		l := s.divide(x, sides, 3000)
		isSame(t, "parts", len(l), 3000)
		s.shuffle(l)
		isSame(t, fmt.Sprintf("%d sides", sides), cover(x, l, sides, 3), true)
		for range 12 {
			k := s.below(len(l))
			gone := l[k]
			l[k] = l[len(l)-1]
			isSame(t, fmt.Sprintf("%d sides, %v gone", sides, gone), cover(x, l[:len(l)-1], sides, 3), false)
			l[k] = gone
		}
	}
}

// Many layers across all others, from side to side, with as many gaps between: they cut everything to pieces, and cover nothing alone.
func TestCoversOfManyLayers(t *testing.T) { // P603
	s := source(6666)
	x := room{{0, 4000}, {0, 4000}, {0, 4000}}
	parts := s.divide(x, 3, 300)
	var l []room
	for i := range x {
		for at := 0; at < 4000; at += 2 {
			layer := x
			layer[i] = [2]int{at, at + 1}
			l = append(l, layer)
		}
	}
	isSame(t, "layers", cover(x, l, 3, 1), false)
	isSame(t, "all", cover(x, append(l, parts...), 3, 1), true)
	isSame(t, "less the last", cover(x, append(l, parts[:len(parts)-1]...), 3, 1), false)
	for at := 1; at < 4000; at += 2 {
		l = append(l, room{{-1, 4001}, {at, at + 1}, {0, 4000}})
	}
	isSame(t, "one side filled", cover(x, l, 3, 1), true)
	isSame(t, "less one", cover(x, l[:len(l)-1], 3, 1), false)
}

// Many beams, from side to side in each of the three directions, past one another.
func TestCoversOfManyBeams(t *testing.T) { // P603
	s := source(66666)
	x := room{{0, 1 << 20}, {0, 1 << 20}, {0, 1 << 20}}
	parts := s.divide(x, 3, 500)
	var l []room
	for k := range 1500 {
		beam := x
		for i := range 2 {
			at := s.below(1 << 20)
			beam[(k+i)%3] = [2]int{at, at + 1 + s.below(1<<16)}
		}
		l = append(l, beam)
	}
	isSame(t, "beams", cover(x, l, 3, 1), false)
	isSame(t, "all", cover(x, append(l, parts...), 3, 1), true)
	gone := parts[0]
	corner := room{{gone[0][0], gone[0][0] + 1}, {gone[1][0], gone[1][0] + 1}, {gone[2][0], gone[2][0] + 1}}
	isSame(t, "a corner in a beam", filled(corner, l), false)
	isSame(t, "less one", cover(x, append(l, parts[1:]...), 3, 1), false)
}
