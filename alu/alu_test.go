package alu_test

import (
	"math"
	"slices"
	"testing"

	"redundancy/alu"
	"redundancy/api"
	"redundancy/layout"
)

func num(v uint16) api.Cell    { return api.Cell{Tag: api.Num, Val: v} }
func ptr(v uint16) api.Cell    { return api.Cell{Tag: api.Ptr, Val: v} }
func handle(v uint16) api.Cell { return api.Cell{Tag: api.Handle, Val: v} }

func with(key uint16, bases ...int) api.Layout { return api.Layout{Bases: bases, Key: key} }

// The memory of most tests: region 1 lies at the first two addresses, one
// address in front of region 0, and region 2 at the last three.
var (
	sizes = []int{4, 2, 3}
	place = with(7, 3, 0, 509)
)

// outside returns addresses at which no place of it lies: those beside the
// regions, behind the last address, and those that are the address of a place
// in some of their bits.
func outside() []uint16 {
	return []uint16{2, 7, 8, 100, 255, 256, 508, 512, 513, 515, 1024, 4096 + 3, 32768, 32768 + 3, 65533, 65535}
}

// numbers returns edges of words.
func numbers() []uint16 {
	return []uint16{
		0, 1, 2, 3, 4, 5, 7, 8, 10, 15, 16, 17, 31, 32, 33, 100, 255, 256, 257, 511, 512, 4095, 12345, 21845,
		32766, 32767, 32768, 32769, 40503, 43690, 65279, 65280, 65519, 65520, 65521, 65533, 65534, 65535,
	}
}

type setting struct {
	l     api.Layout
	sizes []int
}

// settings returns layouts with from one to four regions, in several orders of
// the addresses.
func settings(t *testing.T) []setting {
	t.Helper()
	all := []setting{{place, sizes}, {with(0, 480), []int{32}}, {with(0, 0), []int{1}}, {with(0, 0, 2, 4), []int{1, 1, 1}}}
	for _, s := range [][]int{{32}, {4, 2}, {1, 32}, {3, 1, 9}, {32, 32, 32, 32}} {
		for _, seed := range []int{0, 1, 2, 3, 7999, 1 << 30} {
			l, errno := layout.Make(s, seed)
			if errno != api.OK {
				t.Fatalf("Make(%v, %d): %d", s, seed, errno)
			}
			all = append(all, setting{l, s})
		}
	}
	return all
}

// around returns the region that has an address, and its first and last
// address; -1 if none has it.
func around(s setting, addr int) (r, first, last int) {
	for r, base := range s.l.Bases {
		if base <= addr && addr < base+s.sizes[r] {
			return r, base, base + s.sizes[r] - 1
		}
	}
	return -1, 0, 0
}

// canons returns numbers, handles and the pointers to all places of sizes.
func canons(sizes []int) []api.Canon {
	var all []api.Canon
	for _, val := range []uint16{0, 1, 2, 3, 16, 32767, 32768, 65534, 65535} {
		all = append(all, api.Canon{Tag: api.Num, Val: val}, api.Canon{Tag: api.Handle, Val: val})
	}
	for r, size := range sizes {
		for offset := range size {
			all = append(all, api.Canon{Tag: api.Ptr, Region: r, Offset: offset})
		}
	}
	return all
}

// P9.1

func TestMove(t *testing.T) {
	for _, c := range []struct {
		name string
		p    api.Cell
		n    uint16
		back bool
		want api.Cell
		trap int
	}{
		{"by nothing", ptr(4), 0, false, ptr(4), 0},
		{"back by nothing", ptr(4), 0, true, ptr(4), 0},
		{"on by one", ptr(4), 1, false, ptr(5), 0},
		{"back by one", ptr(4), 1, true, ptr(3), 0},
		{"from the first to the last place", ptr(3), 3, false, ptr(6), 0},
		{"from the last to the first place", ptr(6), 3, true, ptr(3), 0},
		{"one behind the last place", ptr(3), 4, false, api.Cell{}, 4},
		{"one in front of the first place", ptr(6), 4, true, api.Cell{}, 4},
		{"to the last address", ptr(509), 2, false, ptr(511), 0},
		{"behind the last address", ptr(509), 3, false, api.Cell{}, 4},
		{"to the first address", ptr(1), 1, true, ptr(0), 0},
		{"in front of the first address", ptr(1), 2, true, api.Cell{}, 4},
		{"into the region behind", ptr(1), 2, false, api.Cell{}, 4},
		{"further into the region behind", ptr(0), 6, false, api.Cell{}, 4},
		{"into the region in front", ptr(3), 2, true, api.Cell{}, 4},
		{"into the region in front, from its end", ptr(6), 6, true, api.Cell{}, 4},
		{"into the last region", ptr(3), 506, false, api.Cell{}, 4},
		{"-1 is not a number", ptr(4), 65535, false, api.Cell{}, 4},
		{"nor is it one back", ptr(4), 65535, true, api.Cell{}, 4},
		{"the least negative word", ptr(4), 32768, false, api.Cell{}, 4},
		{"a number", num(4), 0, false, api.Cell{}, 3},
		{"a number without a place", num(100), 0, true, api.Cell{}, 3},
		{"a handle", handle(4), 0, false, api.Cell{}, 3},
		{"a handle that leaves", handle(4), 100, true, api.Cell{}, 3},
	} {
		if got, trap := alu.Move(place, sizes, c.p, c.n, c.back); got != c.want || trap != c.trap {
			t.Errorf("%s: %v, %d, want %v, %d", c.name, got, trap, c.want, c.trap)
		}
	}
}

func TestMoveOfWildPointersIsTrapAddr(t *testing.T) {
	for _, addr := range outside() {
		for _, back := range []bool{false, true} {
			for _, n := range numbers() {
				if got, trap := alu.Move(place, sizes, ptr(addr), n, back); got != (api.Cell{}) || trap != 4 {
					t.Errorf("Move(%d, %d, %v) = %v, %d", addr, n, back, got, trap)
				}
			}
		}
	}
	// From there it would come to a place of a region.
	for _, c := range []struct {
		addr, n uint16
		back    bool
	}{{2, 1, false}, {2, 1, true}, {7, 1, true}, {508, 1, false}, {512, 1, true}, {65535, 4, false}} {
		if got, trap := alu.Move(place, sizes, ptr(c.addr), c.n, c.back); got != (api.Cell{}) || trap != 4 {
			t.Errorf("Move(%d, %d, %v) = %v, %d", c.addr, c.n, c.back, got, trap)
		}
	}
}

func TestMoveByAllNumbers(t *testing.T) {
	for n := range 1 << 16 {
		for _, c := range []struct {
			addr int
			back bool
			last int
		}{{4, false, 2}, {4, true, 1}, {0, false, 1}, {1, true, 1}, {511, true, 2}, {511, false, 0}} {
			want, wantTrap := api.Cell{}, 4
			if n <= c.last {
				to := c.addr + n
				if c.back {
					to = c.addr - n
				}
				want, wantTrap = ptr(uint16(to)), 0
			}
			if got, trap := alu.Move(place, sizes, ptr(uint16(c.addr)), uint16(n), c.back); got != want || trap != wantTrap {
				t.Fatalf("Move(%d, %d, %v) = %v, %d, want %v, %d", c.addr, n, c.back, got, trap, want, wantTrap)
			}
		}
	}
}

func TestMoveInManyLayouts(t *testing.T) {
	for _, s := range settings(t) {
		for addr := range 520 {
			r, first, last := around(s, addr)
			for distance := -70; distance <= 70; distance++ {
				want, wantTrap := api.Cell{}, 4
				if to := addr + distance; r >= 0 && first <= to && to <= last {
					want, wantTrap = ptr(uint16(to)), 0
				}
				n := uint16(max(distance, -distance))
				if got, trap := alu.Move(s.l, s.sizes, ptr(uint16(addr)), n, distance < 0); got != want || trap != wantTrap {
					t.Fatalf("%v: Move of %d by %d: %v, %d, want %v, %d", s, addr, distance, got, trap, want, wantTrap)
				}
			}
		}
	}
}

// P9.2

func TestDoOfNumbers(t *testing.T) {
	for _, c := range []struct {
		op   int
		b, c uint16
		want uint16
	}{
		{api.OpAdd, 2, 3, 5},
		{api.OpAdd, 65535, 1, 0},
		{api.OpAdd, 65535, 65535, 65534},
		{api.OpSub, 5, 3, 2},
		{api.OpSub, 3, 5, 65534},
		{api.OpSub, 0, 65535, 1},
		{api.OpMul, 7, 6, 42},
		{api.OpMul, 256, 256, 0},
		{api.OpMul, 65535, 65535, 1},
		{api.OpMul, 40503, 3, 55973},
		{api.OpDiv, 7, 2, 3},
		{api.OpDiv, 2, 7, 0},
		{api.OpDiv, 0, 7, 0},
		{api.OpDiv, 65535, 65535, 1},
		{api.OpDiv, 65534, 65535, 0},
		{api.OpDiv, 32768, 65535, 0},
		{api.OpDiv, 65535, 32767, 2},
		{api.OpRem, 7, 2, 1},
		{api.OpRem, 2, 7, 2},
		{api.OpRem, 6, 3, 0},
		{api.OpRem, 65534, 65535, 65534},
		{api.OpRem, 65535, 32767, 1},
		{api.OpAnd, 0xF0F0, 0xFF00, 0xF000},
		{api.OpOr, 0xF0F0, 0xFF00, 0xFFF0},
		{api.OpXor, 0xF0F0, 0xFF00, 0x0FF0},
		{api.OpShl, 1, 0, 1},
		{api.OpShl, 1, 15, 32768},
		{api.OpShl, 0x8001, 1, 2},
		{api.OpShl, 1, 16, 1},
		{api.OpShl, 1, 17, 2},
		{api.OpShl, 1, 65535, 32768},
		{api.OpShr, 32768, 0, 32768},
		{api.OpShr, 32768, 1, 16384},
		{api.OpShr, 65535, 15, 1},
		{api.OpShr, 65535, 16, 65535},
		{api.OpShr, 65535, 256, 65535},
		{api.OpShr, 65535, 65535, 1},
		{api.OpLt, 2, 3, 1},
		{api.OpLt, 3, 3, 0},
		{api.OpLt, 4, 3, 0},
		{api.OpLt, 1, 65535, 1},
		{api.OpLt, 65535, 1, 0},
		{api.OpLt, 32767, 32768, 1},
		{api.OpEq, 3, 3, 1},
		{api.OpEq, 3, 4, 0},
		{api.OpEq, 3, 256 + 3, 0},
	} {
		if got, trap := alu.Do(place, sizes, c.op, num(c.b), num(c.c)); got != num(c.want) || trap != 0 {
			t.Errorf("Do(%d, %d, %d) = %v, %d, want %d", c.op, c.b, c.c, got, trap, c.want)
		}
	}
}

// ofNumbers says what an operation makes of two numbers, in arithmetic without
// modulus and with bits one by one; ok is false for a division by zero.
func ofNumbers(op int, b, c int) (result int, ok bool) {
	switch op {
	case 3:
		return (b + c) % 65536, true
	case 4:
		return (b + 65536 - c) % 65536, true
	case 5:
		return b * c % 65536, true
	case 6, 7:
		if c == 0 {
			return 0, false
		}
		quotient := 0
		for rest := b; rest >= c; rest -= c {
			quotient++
		}
		if op == 6 {
			return quotient, true
		}
		return b - quotient*c, true
	case 11:
		for range c % 16 {
			b = b * 2 % 65536
		}
		return b, true
	case 12:
		for range c % 16 {
			b /= 2
		}
		return b, true
	case 13, 14:
		if op == 13 && b < c || op == 14 && b == c {
			return 1, true
		}
		return 0, true
	}
	for value := 1; value < 65536; value *= 2 {
		ofB, ofC := b/value%2 == 1, c/value%2 == 1
		if op == 8 && ofB && ofC || op == 9 && (ofB || ofC) || op == 10 && ofB != ofC {
			result += value
		}
	}
	return result, true
}

func TestDoOfManyNumbers(t *testing.T) {
	for op := 3; op <= 14; op++ {
		for _, b := range numbers() {
			for _, c := range numbers() {
				want, ok := ofNumbers(op, int(b), int(c))
				wantTrap := 0
				if !ok {
					wantTrap = 5
				}
				if got, trap := alu.Do(place, sizes, op, num(b), num(c)); got != num(uint16(want)) || trap != wantTrap {
					t.Errorf("Do(%d, %d, %d) = %v, %d, want %d, %d", op, b, c, got, trap, want, wantTrap)
				}
			}
		}
	}
}

func TestShiftsByAllNumbers(t *testing.T) {
	for n := range 1 << 16 {
		left, _ := alu.Do(place, sizes, api.OpShl, num(0xA5C3), num(uint16(n)))
		right, _ := alu.Do(place, sizes, api.OpShr, num(0xA5C3), num(uint16(n)))
		wantLeft, _ := ofNumbers(11, 0xA5C3, n)
		wantRight, _ := ofNumbers(12, 0xA5C3, n)
		if left != num(uint16(wantLeft)) || right != num(uint16(wantRight)) {
			t.Fatalf("by %d: %v and %v, want %d and %d", n, left, right, wantLeft, wantRight)
		}
	}
}

func TestDivisionByZeroIsTrapZero(t *testing.T) {
	for _, op := range []int{api.OpDiv, api.OpRem} {
		for _, b := range numbers() {
			if got, trap := alu.Do(place, sizes, op, num(b), num(0)); got != (api.Cell{}) || trap != 5 {
				t.Errorf("Do(%d, %d, 0) = %v, %d", op, b, got, trap)
			}
		}
		// Kinds come first: nothing but two numbers is divided.
		for _, b := range []api.Cell{ptr(3), ptr(0), ptr(100), handle(0), handle(3)} {
			if got, trap := alu.Do(place, sizes, op, b, num(0)); got != (api.Cell{}) || trap != 3 {
				t.Errorf("Do(%d, %v, 0) = %v, %d", op, b, got, trap)
			}
		}
		for _, c := range []api.Cell{ptr(0), handle(0)} {
			if got, trap := alu.Do(place, sizes, op, num(7), c); got != (api.Cell{}) || trap != 3 {
				t.Errorf("Do(%d, 7, %v) = %v, %d", op, c, got, trap)
			}
		}
	}
}

func TestDoOfPointers(t *testing.T) {
	for _, c := range []struct {
		name string
		op   int
		b, c api.Cell
		want api.Cell
		trap int
	}{
		{"pointer and number", api.OpAdd, ptr(3), num(2), ptr(5), 0},
		{"number and pointer", api.OpAdd, num(2), ptr(3), ptr(5), 0},
		{"pointer and nothing", api.OpAdd, ptr(6), num(0), ptr(6), 0},
		{"nothing and pointer", api.OpAdd, num(0), ptr(6), ptr(6), 0},
		{"out of the region", api.OpAdd, ptr(3), num(4), api.Cell{}, 4},
		{"out of the region, number first", api.OpAdd, num(4), ptr(3), api.Cell{}, 4},
		{"into another region", api.OpAdd, ptr(0), num(3), api.Cell{}, 4},
		{"-1", api.OpAdd, ptr(5), num(65535), api.Cell{}, 4},
		{"-1 first", api.OpAdd, num(65535), ptr(5), api.Cell{}, 4},
		{"wild pointer", api.OpAdd, ptr(2), num(1), api.Cell{}, 4},
		{"to a wild pointer", api.OpAdd, num(1), ptr(2), api.Cell{}, 4},
		{"two pointers", api.OpAdd, ptr(3), ptr(3), api.Cell{}, 3},

		{"pointer less number", api.OpSub, ptr(6), num(3), ptr(3), 0},
		{"pointer less nothing", api.OpSub, ptr(3), num(0), ptr(3), 0},
		{"back out of the region", api.OpSub, ptr(6), num(4), api.Cell{}, 4},
		{"back into another region", api.OpSub, ptr(3), num(2), api.Cell{}, 4},
		{"less -1", api.OpSub, ptr(5), num(65535), api.Cell{}, 4},
		{"wild pointer less number", api.OpSub, ptr(7), num(1), api.Cell{}, 4},
		{"number less pointer", api.OpSub, num(6), ptr(3), api.Cell{}, 3},

		{"distance", api.OpSub, ptr(6), ptr(4), num(2), 0},
		{"distance back", api.OpSub, ptr(4), ptr(6), num(65534), 0},
		{"no distance", api.OpSub, ptr(511), ptr(511), num(0), 0},
		{"distance of the first address", api.OpSub, ptr(0), ptr(1), num(65535), 0},
		{"distance between regions", api.OpSub, ptr(3), ptr(1), api.Cell{}, 4},
		{"distance between regions, back", api.OpSub, ptr(1), ptr(3), api.Cell{}, 4},
		{"distance of a wild pointer", api.OpSub, ptr(7), ptr(6), api.Cell{}, 4},
		{"distance to a wild pointer", api.OpSub, ptr(6), ptr(7), api.Cell{}, 4},
		{"distance of a wild pointer to itself", api.OpSub, ptr(7), ptr(7), api.Cell{}, 4},
		{"distance of two wild pointers", api.OpSub, ptr(100), ptr(101), api.Cell{}, 4},

		{"in front", api.OpLt, ptr(4), ptr(6), num(1), 0},
		{"behind", api.OpLt, ptr(6), ptr(4), num(0), 0},
		{"at the same place", api.OpLt, ptr(4), ptr(4), num(0), 0},
		{"at the first address", api.OpLt, ptr(0), ptr(1), num(1), 0},
		{"in another region", api.OpLt, ptr(1), ptr(3), api.Cell{}, 4},
		{"in another region, back", api.OpLt, ptr(3), ptr(1), api.Cell{}, 4},
		{"a wild pointer in front", api.OpLt, ptr(2), ptr(3), api.Cell{}, 4},
		{"a wild pointer behind", api.OpLt, ptr(6), ptr(7), api.Cell{}, 4},
		{"a wild pointer and itself", api.OpLt, ptr(7), ptr(7), api.Cell{}, 4},
		{"two wild pointers", api.OpLt, ptr(100), ptr(101), api.Cell{}, 4},
		{"pointer before number", api.OpLt, ptr(3), num(4), api.Cell{}, 3},
		{"number before pointer", api.OpLt, num(3), ptr(4), api.Cell{}, 3},
	} {
		if got, trap := alu.Do(place, sizes, c.op, c.b, c.c); got != c.want || trap != c.trap {
			t.Errorf("%s: %v, %d, want %v, %d", c.name, got, trap, c.want, c.trap)
		}
	}
}

// The example of the chapter.
func TestDifferenceOfTwoOffsets(t *testing.T) {
	l, s := with(0, 40), []int{8}
	if got, trap := alu.Do(l, s, api.OpSub, ptr(43), ptr(45)); got != num(65534) || trap != 0 {
		t.Error("SUB", got, trap)
	}
	if got, trap := alu.Do(l, s, api.OpMul, ptr(43), num(2)); got != (api.Cell{}) || trap != 3 {
		t.Error("MUL", got, trap)
	}
}

func TestDoOfAPointerAndANumberIsMove(t *testing.T) {
	for _, s := range settings(t) {
		for addr := range 520 {
			for _, n := range numbers() {
				on, trapOn := alu.Move(s.l, s.sizes, ptr(uint16(addr)), n, false)
				back, trapBack := alu.Move(s.l, s.sizes, ptr(uint16(addr)), n, true)
				if got, trap := alu.Do(s.l, s.sizes, 3, ptr(uint16(addr)), num(n)); got != on || trap != trapOn {
					t.Fatalf("%v: %d and %d: %v, %d", s, addr, n, got, trap)
				}
				if got, trap := alu.Do(s.l, s.sizes, 3, num(n), ptr(uint16(addr))); got != on || trap != trapOn {
					t.Fatalf("%v: %d, and %d: %v, %d", s, n, addr, got, trap)
				}
				if got, trap := alu.Do(s.l, s.sizes, 4, ptr(uint16(addr)), num(n)); got != back || trap != trapBack {
					t.Fatalf("%v: %d less %d: %v, %d", s, addr, n, got, trap)
				}
			}
		}
	}
}

func TestDoOfTwoPointersInManyLayouts(t *testing.T) {
	for _, s := range settings(t) {
		for b := range 513 {
			regionOfB, _, _ := around(s, b)
			for c := max(0, b-40); c < b+40; c++ {
				regionOfC, _, _ := around(s, c)
				difference, less, wantTrap := num(uint16(b-c+65536)), num(0), 0
				if b < c {
					less = num(1)
				}
				if regionOfB < 0 || regionOfB != regionOfC {
					difference, less, wantTrap = api.Cell{}, api.Cell{}, 4
				}
				if got, trap := alu.Do(s.l, s.sizes, 4, ptr(uint16(b)), ptr(uint16(c))); got != difference || trap != wantTrap {
					t.Fatalf("%v: %d less %d: %v, %d", s, b, c, got, trap)
				}
				if got, trap := alu.Do(s.l, s.sizes, 13, ptr(uint16(b)), ptr(uint16(c))); got != less || trap != wantTrap {
					t.Fatalf("%v: %d before %d: %v, %d", s, b, c, got, trap)
				}
			}
		}
	}
}

func TestEqOfAllCells(t *testing.T) {
	var cells []api.Cell
	for _, val := range append(outside(), 0, 1, 3, 4, 5, 6, 7, 509, 511) {
		cells = append(cells, num(val), ptr(val), handle(val))
	}
	for _, b := range cells {
		for _, c := range cells {
			want := num(0)
			if b.Tag == c.Tag && b.Val == c.Val {
				want = num(1)
			}
			if got, trap := alu.Do(place, sizes, api.OpEq, b, c); got != want || trap != 0 {
				t.Errorf("%v equals %v: %v, %d", b, c, got, trap)
			}
		}
	}
}

func TestOtherCombinationsOfKindsAreTrapTag(t *testing.T) {
	taken := func(op int, b, c uint8) bool {
		switch {
		case op == 14 || b == 0 && c == 0:
			return true
		case op == 3:
			return b+c == 1
		case op == 4:
			return b == 1 && c < 2
		}
		return op == 13 && b == 1 && c == 1
	}
	for op := 3; op <= 14; op++ {
		for tagOfB := range uint8(3) {
			for tagOfC := range uint8(3) {
				if taken(op, tagOfB, tagOfC) {
					continue
				}
				for _, b := range []uint16{0, 3, 5, 7, 100, 65535} {
					for _, c := range []uint16{0, 1, 3, 5, 7, 100, 65535} {
						x, y := api.Cell{Tag: tagOfB, Val: b}, api.Cell{Tag: tagOfC, Val: c}
						if got, trap := alu.Do(place, sizes, op, x, y); got != (api.Cell{}) || trap != 3 {
							t.Errorf("Do(%d, %v, %v) = %v, %d", op, x, y, got, trap)
						}
					}
				}
			}
		}
	}
}

func TestOtherOperationsAreTrapOp(t *testing.T) {
	ops := []int{math.MinInt, math.MinInt + 3, -1 << 32, -256 + 3, -3, 256 + 3, 1<<16 + 5, 1<<32 + 3, 1<<32 + 14, math.MaxInt}
	for op := -2; op <= 2; op++ {
		ops = append(ops, op)
	}
	for op := 15; op <= 40; op++ {
		ops = append(ops, op)
	}
	cells := []api.Cell{num(0), num(1), ptr(3), ptr(4), ptr(100), handle(0), handle(3)}
	for _, op := range ops {
		for _, b := range cells {
			for _, c := range cells {
				if got, trap := alu.Do(place, sizes, op, b, c); got != (api.Cell{}) || trap != 1 {
					t.Errorf("Do(%d, %v, %v) = %v, %d", op, b, c, got, trap)
				}
			}
		}
	}
}

// P9.3

func TestWithin(t *testing.T) {
	for _, c := range []struct {
		name string
		p    api.Cell
		n    int
		addr int
		trap int
	}{
		{"a whole region", ptr(3), 4, 3, 0},
		{"more than a region", ptr(3), 5, 0, 4},
		{"a part of a region", ptr(4), 2, 4, 0},
		{"up to the end", ptr(4), 3, 4, 0},
		{"over the end", ptr(4), 4, 0, 4},
		{"the last word", ptr(6), 1, 6, 0},
		{"over the last word", ptr(6), 2, 0, 4},
		{"nothing at the beginning", ptr(3), 0, 3, 0},
		{"nothing at the last word", ptr(6), 0, 6, 0},
		{"nothing behind the region", ptr(7), 0, 0, 4},
		{"nothing in front of the region", ptr(2), 0, 0, 4},
		{"up to the next region", ptr(0), 3, 0, 4},
		{"at the first address", ptr(0), 2, 0, 0},
		{"at the last address", ptr(511), 1, 511, 0},
		{"over the last address", ptr(511), 2, 0, 4},
		{"up to the last address", ptr(509), 3, 509, 0},
		{"-1", ptr(3), -1, 0, 4},
		{"-1 at the last word", ptr(6), -1, 0, 4},
		{"a very negative number", ptr(3), math.MinInt, 0, 4},
		{"a very large number", ptr(3), math.MaxInt, 0, 4},
		{"a very large number at the last word", ptr(6), math.MaxInt, 0, 4},
		{"a very large number, less the offset", ptr(6), math.MaxInt - 2, 0, 4},
		{"more than 32 bits", ptr(3), 1<<32 + 1, 0, 4},
		{"more than 16 bits", ptr(3), 1<<16 + 1, 0, 4},
		{"a number", num(3), 1, 0, 3},
		{"a number, -1", num(3), -1, 0, 3},
		{"a number without a place", num(100), 0, 0, 3},
		{"a handle", handle(3), 1, 0, 3},
		{"a handle, too many", handle(3), 100, 0, 3},
	} {
		if addr, trap := alu.Within(place, sizes, c.p, c.n); addr != c.addr || trap != c.trap {
			t.Errorf("%s: %d, %d, want %d, %d", c.name, addr, trap, c.addr, c.trap)
		}
	}
}

func TestWithinOfWildPointersIsTrapAddr(t *testing.T) {
	for _, addr := range outside() {
		for _, n := range []int{math.MinInt, -1, 0, 1, 2, 4, 512, 65536, math.MaxInt} {
			if got, trap := alu.Within(place, sizes, ptr(addr), n); got != 0 || trap != 4 {
				t.Errorf("Within(%d, %d) = %d, %d", addr, n, got, trap)
			}
		}
	}
}

func TestWithinInManyLayouts(t *testing.T) {
	for _, s := range settings(t) {
		for addr := range 520 {
			r, _, last := around(s, addr)
			for n := -40; n <= 40; n++ {
				want, wantTrap := 0, 4
				if r >= 0 && n >= 0 && addr+n-1 <= last {
					want, wantTrap = addr, 0
				}
				if got, trap := alu.Within(s.l, s.sizes, ptr(uint16(addr)), n); got != want || trap != wantTrap {
					t.Fatalf("%v: %d words at %d: %d, %d, want %d, %d", s, n, addr, got, trap, want, wantTrap)
				}
			}
		}
	}
}

// Consequences

// rawCells returns the cells of one layout for canonical ones.
func rawCells(t *testing.T, l api.Layout, sizes []int, all []api.Canon) []api.Cell {
	t.Helper()
	cells := make([]api.Cell, len(all))
	for i, x := range all {
		c, errno := layout.Raw(l, sizes, x)
		if errno != api.OK {
			t.Fatalf("Raw(%v, %v): %d", l, x, errno)
		}
		cells[i] = c
	}
	return cells
}

func TestNoLayoutMattersForDo(t *testing.T) {
	s := []int{4, 6, 1}
	all := canons(s)
	first, _ := layout.Make(s, 0)
	inFirst := rawCells(t, first, s, all)
	for _, seed := range []int{1, 2, 3, 4567, 1 << 30} {
		other, _ := layout.Make(s, seed)
		inOther := rawCells(t, other, s, all)
		for op := 2; op <= 15; op++ {
			for i := range all {
				for j := range all {
					a, trapOfA := alu.Do(first, s, op, inFirst[i], inFirst[j])
					b, trapOfB := alu.Do(other, s, op, inOther[i], inOther[j])
					if trapOfA != trapOfB || layout.Canon(first, s, a) != layout.Canon(other, s, b) {
						t.Fatalf("Do(%d, %v, %v): %v, %d and %v, %d", op, all[i], all[j], a, trapOfA, b, trapOfB)
					}
				}
			}
		}
	}
}

func TestNoLayoutMattersForMoveAndWithin(t *testing.T) {
	s := []int{4, 6, 1}
	all := canons(s)
	first, _ := layout.Make(s, 0)
	inFirst := rawCells(t, first, s, all)
	for _, seed := range []int{1, 2, 3, 4567, 1 << 30} {
		other, _ := layout.Make(s, seed)
		inOther := rawCells(t, other, s, all)
		for i, x := range all {
			for _, n := range numbers() {
				for _, back := range []bool{false, true} {
					a, trapOfA := alu.Move(first, s, inFirst[i], n, back)
					b, trapOfB := alu.Move(other, s, inOther[i], n, back)
					if trapOfA != trapOfB || layout.Canon(first, s, a) != layout.Canon(other, s, b) {
						t.Fatalf("Move(%v, %d, %v): %v, %d and %v, %d", x, n, back, a, trapOfA, b, trapOfB)
					}
				}
				_, trapOfA := alu.Within(first, s, inFirst[i], int(n))
				_, trapOfB := alu.Within(other, s, inOther[i], int(n))
				if trapOfA != trapOfB {
					t.Fatalf("Within(%v, %d): %d and %d", x, n, trapOfA, trapOfB)
				}
			}
		}
	}
}

// R1

func useWithEverything(l api.Layout, sizes []int) {
	for tag := range uint8(5) {
		for _, val := range []uint16{0, 1, 5, 10, 33, 511, 512, 65535} {
			b := api.Cell{Tag: tag, Val: val}
			for _, n := range []int{math.MinInt, -1, 0, 1, 33, 65535, math.MaxInt} {
				alu.Within(l, sizes, b, n)
				alu.Move(l, sizes, b, uint16(n), n < 0)
				for other := range uint8(5) {
					for op := 2; op <= 15; op++ {
						alu.Do(l, sizes, op, b, api.Cell{Tag: other, Val: uint16(n)})
					}
				}
			}
		}
	}
}

func TestArgumentsThatAreNotValidDoNoHarm(t *testing.T) {
	edges := []int{math.MinInt, -1, 0, 1, 10, 33, 511, math.MaxInt - 1, math.MaxInt}
	layouts := []api.Layout{{}, with(3, 10, 20, 30, 40, 50)}
	for _, a := range edges {
		layouts = append(layouts, with(1, a), with(9, a, 10), with(65535, 5, a))
	}
	manySizes := [][]int{nil, {}, {0}, {33}, {4, 2}, {4, 0}, {-1, 4}, {1, 1, 1, 1, 1}, {math.MaxInt}, {math.MinInt, math.MaxInt}, {4, 2, 3}}
	for _, s := range manySizes {
		for _, l := range layouts {
			useWithEverything(l, s)
		}
	}
}

// The chapter leaves open what lies where in a layout that is not valid; as in
// package layout there is nothing, so that all of its pointers are wild.
func TestLayoutsThatAreNotValidHaveNoPlaces(t *testing.T) {
	for _, l := range []api.Layout{{}, with(0, 10), with(0, 10, 13), with(0, 10, 511)} {
		if got, trap := alu.Move(l, []int{4, 2}, ptr(10), 1, false); got != (api.Cell{}) || trap != 4 {
			t.Errorf("Move in %v: %v, %d", l, got, trap)
		}
		if got, trap := alu.Within(l, []int{4, 2}, ptr(10), 1); got != 0 || trap != 4 {
			t.Errorf("Within in %v: %d, %d", l, got, trap)
		}
		if got, trap := alu.Do(l, []int{4, 2}, api.OpSub, ptr(10), ptr(10)); got != (api.Cell{}) || trap != 4 {
			t.Errorf("Do in %v: %v, %d", l, got, trap)
		}
	}
}

// R2

func TestArgumentsAreNotChanged(t *testing.T) {
	for _, s := range []setting{{place, sizes}, {with(9, 10, 20), []int{4, 33}}, {with(9, 20, 10, 1), []int{2, 4}}, {with(9), nil}} {
		sizesBefore, basesBefore := slices.Clone(s.sizes), slices.Clone(s.l.Bases)
		useWithEverything(s.l, s.sizes)
		if !slices.Equal(s.sizes, sizesBefore) || !slices.Equal(s.l.Bases, basesBefore) {
			t.Errorf("%v, %v has become %v, %v", sizesBefore, basesBefore, s.sizes, s.l.Bases)
		}
	}
}
