package layout_test

import (
	"math"
	"slices"
	"testing"

	"redundancy/api"
	"redundancy/layout"
	"redundancy/word"
)

func place(r, offset int) api.Place { return api.Place{Region: r, Offset: offset} }

func with(key uint16, bases ...int) api.Layout { return api.Layout{Bases: bases, Key: key} }

func same(a, b api.Layout) bool { return a.Key == b.Key && slices.Equal(a.Bases, b.Bases) }

// someSizes returns from one to four regions, with the shortest and the longest
// of them at each position.
func someSizes() [][]int {
	return [][]int{
		{1}, {2}, {31}, {32},
		{4, 2}, {1, 1}, {1, 32}, {32, 1}, {32, 32},
		{1, 1, 1}, {32, 1, 8}, {8, 32, 1}, {1, 8, 32}, {32, 32, 32},
		{1, 1, 1, 1}, {1, 2, 3, 4}, {32, 1, 32, 1}, {1, 32, 1, 32}, {32, 32, 32, 32},
	}
}

// invalidSizes returns sizes with which no layout is valid.
func invalidSizes() [][]int {
	return [][]int{
		nil, {}, {0}, {33}, {-1}, {4, 0}, {0, 4}, {4, 33}, {4, -2}, {1, 1, 1, 1, 1},
		{math.MaxInt}, {math.MinInt}, {math.MaxInt, math.MaxInt},
	}
}

// someSeeds returns the first seeds, those around which the beginnings, the
// gaps and the keys start anew, and the last ones.
func someSeeds() []int {
	var seeds []int
	for seed := range 300 {
		seeds = append(seeds, seed)
	}
	for _, edge := range []int{1950, 2000, 4000, 6000, 8000, 1 << 16, 1 << 20, 1 << 29, 1<<30 - 8} {
		for seed := edge - 8; seed <= edge+8; seed++ {
			seeds = append(seeds, seed)
		}
	}
	return seeds
}

// occupied returns for each address the number of the place that lies there,
// -1 if there is none; ok reports whether each place lies within the addresses
// and no address has two of them.
func occupied(l api.Layout, sizes []int) (places [512]api.Place, has [512]bool, ok bool) {
	ok = true
	for r, size := range sizes {
		for offset := range size {
			addr := l.Bases[r] + offset
			if addr < 0 || addr >= 512 || has[addr] {
				ok = false
				continue
			}
			places[addr], has[addr] = place(r, offset), true
		}
	}
	return places, has, ok
}

// validByAddresses says what Valid says, but goes from address to address.
func validByAddresses(l api.Layout, sizes []int) bool {
	if len(l.Bases) != len(sizes) {
		return false
	}
	places, has, ok := occupied(l, sizes)
	if !ok {
		return false
	}
	for addr := 1; addr < 512; addr++ {
		if has[addr-1] && has[addr] && places[addr-1].Region != places[addr].Region {
			return false
		}
	}
	return true
}

// P3.1

func TestValid(t *testing.T) {
	for _, c := range []struct {
		name  string
		l     api.Layout
		sizes []int
		want  bool
	}{
		{"one region at the beginning", with(0, 0), []int{32}, true},
		{"one region at the end", with(0, 480), []int{32}, true},
		{"one region behind the end", with(0, 481), []int{32}, false},
		{"one word at the last address", with(0, 511), []int{1}, true},
		{"one word behind the last address", with(0, 512), []int{1}, false},
		{"before the addresses", with(0, -1), []int{1}, false},
		{"a part before the addresses", with(0, -1), []int{32}, false},
		{"one address between", with(0, 1, 6), []int{4, 2}, true},
		{"none between", with(0, 1, 5), []int{4, 2}, false},
		{"the first word in the other region", with(0, 1, 4), []int{4, 2}, false},
		{"the same base", with(0, 3, 3), []int{4, 2}, false},
		{"one region within the other", with(0, 3, 4), []int{4, 2}, false},
		{"one region around the other", with(0, 4, 3), []int{2, 4}, false},
		{"the second one first", with(0, 4, 1), []int{4, 2}, true},
		{"the second one first, none between", with(0, 3, 1), []int{4, 2}, false},
		{"far apart", with(0, 508, 0), []int{4, 2}, true},
		{"the second one behind the end", with(0, 0, 511), []int{4, 2}, false},
		{"the second one before the addresses", with(0, 9, -2), []int{4, 2}, false},
		{"three", with(0, 5, 0, 8), []int{2, 4, 3}, true},
		{"three, the last two touch", with(0, 5, 0, 7), []int{2, 4, 3}, false},
		{"three, the outer ones touch", with(0, 8, 0, 4), []int{3, 2, 4}, false},
		{"four", with(0, 0, 33, 66, 99), []int{32, 32, 32, 32}, true},
		{"four, the last one in the first", with(0, 0, 33, 66, 31), []int{32, 32, 32, 32}, false},
		{"four, the second and third touch", with(0, 0, 33, 65, 98), []int{32, 32, 32, 32}, false},
		{"any key", with(65535, 1, 6), []int{4, 2}, true},
		{"a base is missing", with(0, 1), []int{4, 2}, false},
		{"no base", with(0), []int{4, 2}, false},
		{"a base without a region", with(0, 1, 6, 20), []int{4, 2}, false},
		{"the largest base", with(0, math.MaxInt, 6), []int{4, 2}, false},
		{"a base at which the end is the least int", with(0, math.MaxInt-3, 6), []int{4, 2}, false},
		{"the least base", with(0, 1, math.MinInt), []int{4, 2}, false},
		{"bases that differ by the whole range", with(0, math.MaxInt, math.MinInt), []int{4, 2}, false},
		{"no regions", with(0), nil, false},
		{"empty sizes and bases", with(0, []int{}...), []int{}, false},
		{"no word", with(0, 1, 6), []int{4, 0}, false},
		{"too many words", with(0, 1, 60), []int{33, 2}, false},
		{"five regions", with(0, 0, 2, 4, 6, 8), []int{1, 1, 1, 1, 1}, false},
	} {
		if got := layout.Valid(c.l, c.sizes); got != c.want {
			t.Errorf("%s: %v", c.name, got)
		}
	}
}

func TestValidOfAnyTwoBases(t *testing.T) {
	edges := []int{-33, -1, 0, 1, 2, 3, 4, 5, 6, 30, 31, 32, 33, 34, 479, 480, 481, 507, 508, 509, 510, 511, 512, 513, 600}
	for _, sizes := range [][]int{{1, 1}, {4, 2}, {2, 4}, {32, 1}, {31, 32}} {
		for _, a := range edges {
			for _, b := range edges {
				l := with(0, a, b)
				if got, want := layout.Valid(l, sizes), validByAddresses(l, sizes); got != want {
					t.Errorf("Valid(%v, %v) = %v", l, sizes, got)
				}
			}
		}
	}
}

func TestValidOfAnyFourBases(t *testing.T) {
	sizes := []int{1, 3, 2, 1}
	for n := range 12 * 12 * 12 * 12 {
		l := with(0, n%12, n/12%12, n/144%12, n/1728)
		if got, want := layout.Valid(l, sizes), validByAddresses(l, sizes); got != want {
			t.Errorf("Valid(%v, %v) = %v", l, sizes, got)
		}
	}
}

func TestMake(t *testing.T) {
	for _, c := range []struct {
		sizes []int
		seed  int
		want  api.Layout
	}{
		{[]int{4, 2}, 0, with(0, 1, 6)},
		{[]int{4, 2}, 1, with(40503, 4, 1)},
		{[]int{4, 2}, 2, with(15470, 2, 7)},
		{[]int{4, 2}, 99, with(12101, 53, 50)},
		{[]int{4, 2}, 100, with(52604, 1, 7)},
		{[]int{4, 2}, 3999, with(32041, 92, 50)},
		{[]int{4, 2}, 4000, with(7008, 1, 6)},
		{[]int{7}, 0, with(0, 1)},
		{[]int{7}, 49, with(18567, 50)},
		{[]int{7}, 50, with(59070, 1)},
		{[]int{5, 6, 7}, 1, with(40503, 16, 1, 8)},
		{[]int{5, 6, 7}, 2, with(15470, 9, 15, 1)},
		{[]int{5, 6, 7}, 152, with(61608, 10, 17, 1)},
		{[]int{1, 2, 3, 4}, 3, with(55973, 6, 8, 11, 1)},
		{[]int{32, 32, 32, 32}, 7996, with(48612, 50, 122, 194, 266)},
		{[]int{32, 32, 32, 32}, 1 << 30, with(0, 7, 69, 131, 193)},
	} {
		got, errno := layout.Make(c.sizes, c.seed)
		if errno != api.OK || !same(got, c.want) {
			t.Errorf("Make(%v, %d) = %v, %d, want %v", c.sizes, c.seed, got, errno, c.want)
		}
	}
}

func TestMakeOfSomeSeeds(t *testing.T) {
	for _, sizes := range someSizes() {
		n := len(sizes)
		for _, seed := range someSeeds() {
			l, errno := layout.Make(sizes, seed)
			if errno != api.OK || len(l.Bases) != n || !layout.Valid(l, sizes) || !validByAddresses(l, sizes) {
				t.Fatalf("Make(%v, %d) = %v, %d", sizes, seed, l, errno)
			}
			if want := uint64(seed) * 40503 % 65536; uint64(l.Key) != want {
				t.Errorf("Make(%v, %d): key %d, want %d", sizes, seed, l.Key, want)
			}
			if got, want := l.Bases[seed%n], seed/n%50+1; got != want {
				t.Errorf("Make(%v, %d): the first region at %d, want %d", sizes, seed, got, want)
			}
			for k := 1; k < n; k++ {
				before, r := (k-1+seed)%n, (k+seed)%n
				free := l.Bases[r] - (l.Bases[before] + sizes[before])
				if want := seed/(50*n)%40 + 1; free != want {
					t.Errorf("Make(%v, %d): %d free addresses before region %d, want %d", sizes, seed, free, r, want)
				}
			}
		}
	}
}

func TestMakeGoesThroughBeginningsAndGaps(t *testing.T) {
	for n := 1; n <= 4; n++ {
		sizes := slices.Repeat([]int{3}, n)
		layouts := map[[5]int]bool{}
		for seed := range 2000 * n {
			l, _ := layout.Make(sizes, seed)
			var key [5]int
			copy(key[:], l.Bases)
			layouts[key] = true
		}
		want := 2000 * n
		if n == 1 {
			// A single region has no gaps.
			want = 50
		}
		if len(layouts) != want {
			t.Errorf("%d regions: %d layouts, want %d", n, len(layouts), want)
		}
	}
}

func TestMakeOfInvalidArgumentsIsErrArg(t *testing.T) {
	refused := func(sizes []int, seed int) {
		if l, errno := layout.Make(sizes, seed); errno != api.ErrArg || len(l.Bases) != 0 || l.Key != 0 {
			t.Errorf("Make(%v, %d) = %v, %d", sizes, seed, l, errno)
		}
	}
	for _, seed := range []int{-1, -2, 1<<30 + 1, 1<<30 + 2, 1 << 31, 1 << 32, 1<<32 + 1, math.MaxInt, math.MinInt} {
		refused([]int{4, 2}, seed)
		refused([]int{4}, seed)
		refused(nil, seed)
	}
	for _, sizes := range invalidSizes() {
		for _, seed := range []int{0, 1, 5, 1 << 30} {
			refused(sizes, seed)
		}
	}
}

// P3.2

func TestAddressAndResolve(t *testing.T) {
	sizes := []int{4, 2, 1}
	l := with(65000, 10, 500, 0)
	for _, c := range []struct {
		p    api.Place
		addr int
	}{
		{place(0, 0), 10},
		{place(0, 3), 13},
		{place(1, 0), 500},
		{place(1, 1), 501},
		{place(2, 0), 0},
	} {
		if got, errno := layout.Address(l, sizes, c.p); got != c.addr || errno != api.OK {
			t.Errorf("Address(%v) = %d, %d, want %d", c.p, got, errno, c.addr)
		}
		if got, ok := layout.Resolve(l, sizes, c.addr); got != c.p || !ok {
			t.Errorf("Resolve(%d) = %v, %v, want %v", c.addr, got, ok, c.p)
		}
	}
}

func TestPlacesAtTheFirstAndLastAddress(t *testing.T) {
	sizes := []int{2, 3}
	l := with(1, 510, 0)
	for addr, want := range map[int]api.Place{0: place(1, 0), 2: place(1, 2), 510: place(0, 0), 511: place(0, 1)} {
		if got, ok := layout.Resolve(l, sizes, addr); got != want || !ok {
			t.Errorf("Resolve(%d) = %v, %v, want %v", addr, got, ok, want)
		}
		if got, errno := layout.Address(l, sizes, want); got != addr || errno != api.OK {
			t.Errorf("Address(%v) = %d, %d, want %d", want, got, errno, addr)
		}
		x := api.Canon{Tag: api.Ptr, Region: want.Region, Offset: want.Offset}
		if got := layout.Canon(l, sizes, api.Cell{Tag: api.Ptr, Val: uint16(addr)}); got != x {
			t.Errorf("Canon of the address %d: %v", addr, got)
		}
	}
}

func TestAddressOfNoPlaceIsErrRange(t *testing.T) {
	sizes := []int{4, 2}
	l := with(65000, 10, 20)
	for _, p := range []api.Place{
		place(0, 4), place(0, 5), place(0, 10), place(0, -1), place(1, 2), place(1, 3), place(1, -1), place(1, -10),
		place(2, 0), place(3, 0), place(-1, 0), place(-1, 10), place(math.MaxInt, 0), place(math.MinInt, 0),
		place(0, math.MaxInt), place(0, math.MinInt), place(1, math.MaxInt), place(1, math.MinInt),
	} {
		if got, errno := layout.Address(l, sizes, p); got != 0 || errno != api.ErrRange {
			t.Errorf("Address(%v) = %d, %d", p, got, errno)
		}
	}
}

func TestResolveWhereNothingLies(t *testing.T) {
	sizes := []int{4, 2}
	l := with(65000, 10, 20)
	for _, addr := range []int{
		0, 1, 9, 14, 15, 19, 22, 23, 511, 512, -1, -10, 1 << 16, 1<<16 + 10, 1<<32 + 10, 1 << 40,
		math.MaxInt, math.MaxInt - 9, math.MinInt, math.MinInt + 9, math.MinInt + 10, math.MinInt + 20,
	} {
		if got, ok := layout.Resolve(l, sizes, addr); ok || got != place(0, 0) {
			t.Errorf("Resolve(%d) = %v, %v", addr, got, ok)
		}
	}
}

func TestAddressAndResolveAreInverses(t *testing.T) {
	for _, sizes := range someSizes() {
		for _, seed := range []int{0, 1, 2, 3, 97, 1234, 1999, 7999, 1 << 30} {
			l, _ := layout.Make(sizes, seed)
			places, has, _ := occupied(l, sizes)
			for addr := -40; addr < 600; addr++ {
				want, there := api.Place{}, false
				if addr >= 0 && addr < 512 {
					want, there = places[addr], has[addr]
				}
				if got, ok := layout.Resolve(l, sizes, addr); got != want || ok != there {
					t.Errorf("Resolve(%v, %v, %d) = %v, %v, want %v, %v", l, sizes, addr, got, ok, want, there)
				}
				if !there {
					continue
				}
				if got, errno := layout.Address(l, sizes, want); got != addr || errno != api.OK {
					t.Errorf("Address(%v, %v, %v) = %d, %d, want %d", l, sizes, want, got, errno, addr)
				}
			}
		}
	}
}

// P3.3 and P3.4

func TestCanonAndRaw(t *testing.T) {
	sizes := []int{4, 2}
	l := with(65000, 10, 20)
	for _, c := range []struct {
		c api.Cell
		x api.Canon
	}{
		{api.Cell{Tag: api.Num}, api.Canon{Tag: api.Num}},
		{api.Cell{Tag: api.Num, Val: 10}, api.Canon{Tag: api.Num, Val: 10}},
		{api.Cell{Tag: api.Num, Val: 65000}, api.Canon{Tag: api.Num, Val: 65000}},
		{api.Cell{Tag: api.Num, Val: 65535}, api.Canon{Tag: api.Num, Val: 65535}},
		{api.Cell{Tag: api.Handle, Val: 65000}, api.Canon{Tag: api.Handle}},
		{api.Cell{Tag: api.Handle, Val: 65003}, api.Canon{Tag: api.Handle, Val: 3}},
		{api.Cell{Tag: api.Handle, Val: 65535}, api.Canon{Tag: api.Handle, Val: 535}},
		{api.Cell{Tag: api.Handle, Val: 0}, api.Canon{Tag: api.Handle, Val: 536}},
		{api.Cell{Tag: api.Handle, Val: 1}, api.Canon{Tag: api.Handle, Val: 537}},
		{api.Cell{Tag: api.Handle, Val: 64999}, api.Canon{Tag: api.Handle, Val: 65535}},
		{api.Cell{Tag: api.Ptr, Val: 10}, api.Canon{Tag: api.Ptr}},
		{api.Cell{Tag: api.Ptr, Val: 13}, api.Canon{Tag: api.Ptr, Offset: 3}},
		{api.Cell{Tag: api.Ptr, Val: 20}, api.Canon{Tag: api.Ptr, Region: 1}},
		{api.Cell{Tag: api.Ptr, Val: 21}, api.Canon{Tag: api.Ptr, Region: 1, Offset: 1}},
	} {
		if got := layout.Canon(l, sizes, c.c); got != c.x {
			t.Errorf("Canon(%v) = %v, want %v", c.c, got, c.x)
		}
		if got, errno := layout.Raw(l, sizes, c.x); got != c.c || errno != api.OK {
			t.Errorf("Raw(%v) = %v, %d, want %v", c.x, got, errno, c.c)
		}
	}
}

func TestCanonOfWildPointersAndRawOfThem(t *testing.T) {
	sizes := []int{4, 2}
	l := with(65000, 10, 20)
	for _, addr := range []int{0, 1, 9, 14, 19, 22, 511, 512, 522, 65000, 65535} {
		want := api.Canon{Tag: api.Ptr, Region: -1, Offset: addr}
		got := layout.Canon(l, sizes, api.Cell{Tag: api.Ptr, Val: uint16(addr)})
		if got != want {
			t.Errorf("Canon of the address %d: %v", addr, got)
		}
		if c, errno := layout.Raw(l, sizes, got); c != (api.Cell{}) || errno != api.ErrArg {
			t.Errorf("Raw(%v) = %v, %d", got, c, errno)
		}
	}
}

func TestRawOfWhatIsNotProperIsErrArg(t *testing.T) {
	sizes := []int{4, 2}
	l := with(65000, 10, 20)
	var improper []api.Canon
	for _, tag := range []uint8{api.Num, api.Handle} {
		for _, n := range []int{-1, 1, 2, 1 << 16, 1 << 32, math.MaxInt, math.MinInt} {
			improper = append(improper,
				api.Canon{Tag: tag, Region: n}, api.Canon{Tag: tag, Offset: n},
				api.Canon{Tag: tag, Val: 7, Region: n}, api.Canon{Tag: tag, Val: 7, Offset: n},
				api.Canon{Tag: tag, Val: 7, Region: n, Offset: n}, api.Canon{Tag: tag, Region: n, Offset: -n})
		}
	}
	for _, val := range []uint16{1, 10, 20, 1 << 15, 65535} {
		improper = append(improper,
			api.Canon{Tag: api.Ptr, Val: val}, api.Canon{Tag: api.Ptr, Val: val, Region: 1, Offset: 1},
			api.Canon{Tag: api.Ptr, Val: val, Region: -1, Offset: 10}, api.Canon{Tag: api.Ptr, Val: val, Region: 2})
	}
	for _, p := range []api.Place{
		place(0, 4), place(0, -1), place(1, 2), place(1, -1), place(2, 0), place(-1, 0), place(-1, 10), place(-1, 14),
		place(math.MaxInt, 0), place(math.MinInt, 0), place(0, math.MaxInt), place(1, math.MinInt),
	} {
		improper = append(improper, api.Canon{Tag: api.Ptr, Region: p.Region, Offset: p.Offset})
	}
	for tag := 3; tag <= 255; tag++ {
		improper = append(improper,
			api.Canon{Tag: uint8(tag)}, api.Canon{Tag: uint8(tag), Val: 7}, api.Canon{Tag: uint8(tag), Region: 1, Offset: 1})
	}
	for _, x := range improper {
		if c, errno := layout.Raw(l, sizes, x); c != (api.Cell{}) || errno != api.ErrArg {
			t.Errorf("Raw(%v) = %v, %d", x, c, errno)
		}
	}
}

// Consequences

func TestRawOfCanonIsTheCellButForWildPointers(t *testing.T) {
	sizes := []int{4, 32, 1}
	for _, seed := range []int{0, 1, 2, 5999, 1 << 30} {
		l, _ := layout.Make(sizes, seed)
		_, has, _ := occupied(l, sizes)
		for _, tag := range []uint8{api.Num, api.Ptr, api.Handle} {
			for val := range 1 << 16 {
				c := api.Cell{Tag: tag, Val: uint16(val)}
				want, wantErrno := c, api.OK
				if tag == api.Ptr && (val >= 512 || !has[val]) {
					want, wantErrno = api.Cell{}, api.ErrArg
				}
				if got, errno := layout.Raw(l, sizes, layout.Canon(l, sizes, c)); got != want || errno != wantErrno {
					t.Fatalf("Raw of Canon of %v in %v: %v, %d", c, l, got, errno)
				}
			}
		}
	}
}

func TestCanonOfRawIsTheCanonicalCell(t *testing.T) {
	sizes := []int{4, 32, 1}
	proper := properCanons(sizes)
	for _, seed := range []int{0, 1, 2, 5999, 1 << 30} {
		l, _ := layout.Make(sizes, seed)
		for _, x := range proper {
			c, errno := layout.Raw(l, sizes, x)
			if errno != api.OK || !word.Valid(c) {
				t.Fatalf("Raw(%v, %v) = %v, %d", l, x, c, errno)
			}
			if got := layout.Canon(l, sizes, c); got != x {
				t.Fatalf("Canon of Raw of %v in %v: %v", x, l, got)
			}
		}
	}
}

// properCanons returns numbers, handles, and the pointers to all places.
func properCanons(sizes []int) []api.Canon {
	var all []api.Canon
	for _, val := range []uint16{0, 1, 7, 255, 256, 32767, 32768, 40503, 65534, 65535} {
		all = append(all, api.Canon{Tag: api.Num, Val: val}, api.Canon{Tag: api.Handle, Val: val})
	}
	for r, size := range sizes {
		for offset := range size {
			all = append(all, api.Canon{Tag: api.Ptr, Region: r, Offset: offset})
		}
	}
	return all
}

func TestRawCellsDifferBetweenLayouts(t *testing.T) {
	sizes := []int{4, 2}
	a, _ := layout.Make(sizes, 0)
	b, _ := layout.Make(sizes, 1)
	for _, x := range properCanons(sizes) {
		inA, _ := layout.Raw(a, sizes, x)
		inB, _ := layout.Raw(b, sizes, x)
		if differ := inA != inB; differ != (x.Tag != api.Num) {
			t.Errorf("%v is %v and %v", x, inA, inB)
		}
		if layout.Canon(a, sizes, inA) != layout.Canon(b, sizes, inB) {
			t.Errorf("%v is not the same in both layouts", x)
		}
	}
}

// R1

func TestLayoutsThatAreNotValidDoNoHarm(t *testing.T) {
	numbers := []int{math.MinInt, math.MinInt + 1, -1 << 40, -33, -1, 0, 1, 5, 31, 32, 33, 511, 512, 1 << 16, 1 << 40, math.MaxInt - 31, math.MaxInt - 1, math.MaxInt}
	layouts := []api.Layout{{}, with(1, []int{}...), with(7, slices.Repeat([]int{math.MaxInt}, 9)...)}
	for _, a := range numbers {
		layouts = append(layouts, with(65535, a), with(3, a, a, a, a, a))
		for _, b := range numbers {
			layouts = append(layouts, with(40503, a, b), with(0, 5, a, b))
		}
	}
	sizes := append(invalidSizes(), []int{4, 2}, []int{32}, []int{32, 32, 32, 32}, []int{4, math.MaxInt, 4}, []int{math.MinInt, 5})
	for _, s := range sizes {
		for _, l := range layouts {
			useWithEverything(l, s, numbers)
		}
	}
}

func useWithEverything(l api.Layout, sizes []int, numbers []int) {
	layout.Valid(l, sizes)
	for _, n := range numbers {
		layout.Resolve(l, sizes, n)
		for tag := range uint8(5) {
			layout.Canon(l, sizes, api.Cell{Tag: tag, Val: uint16(n)})
			layout.Raw(l, sizes, api.Canon{Tag: tag, Val: uint16(n)})
			layout.Raw(l, sizes, api.Canon{Tag: tag, Region: n & 3, Offset: n})
			layout.Raw(l, sizes, api.Canon{Tag: tag, Region: n, Offset: 1})
		}
		for r := -1; r <= 5; r++ {
			layout.Address(l, sizes, place(r, n))
			layout.Address(l, sizes, place(n, r))
		}
	}
}

// The chapter leaves open what lies where in a layout that is not valid; as
// with sizes that are not valid, this package answers that there is nothing.
func TestLayoutsThatAreNotValidHaveNoPlaces(t *testing.T) {
	sizes := []int{4, 2}
	for _, l := range []api.Layout{{}, with(0, 10), with(0, 10, 14), with(0, 10, 511), with(0, 10, 20, 30)} {
		if got, errno := layout.Address(l, sizes, place(0, 1)); got != 0 || errno != api.ErrRange {
			t.Errorf("Address in %v: %d, %d", l, got, errno)
		}
		if got, ok := layout.Resolve(l, sizes, 11); got != place(0, 0) || ok {
			t.Errorf("Resolve in %v: %v, %v", l, got, ok)
		}
		if got, errno := layout.Raw(l, sizes, api.Canon{Tag: api.Ptr, Offset: 1}); got != (api.Cell{}) || errno != api.ErrArg {
			t.Errorf("Raw in %v: %v, %d", l, got, errno)
		}
	}
}

func TestCanonOfUnknownTagsDoesNoHarm(t *testing.T) {
	sizes := []int{4, 2}
	l := with(65000, 10, 20)
	for tag := 3; tag <= 255; tag++ {
		for _, val := range []uint16{0, 10, 13, 21, 65000, 65535} {
			x := layout.Canon(l, sizes, api.Cell{Tag: uint8(tag), Val: val})
			if c, errno := layout.Raw(l, sizes, x); c != (api.Cell{}) || errno != api.ErrArg {
				t.Errorf("Raw of Canon of the tag %d: %v, %d", tag, c, errno)
			}
		}
	}
}

// R2

func TestArgumentsAreNotChanged(t *testing.T) {
	for _, sizes := range [][]int{{4, 2}, {4, 33}, {2, 4, 1}, {}} {
		for _, l := range []api.Layout{with(9, 10, 20), with(9, 20, 10, 1), with(9)} {
			sizesBefore, basesBefore := slices.Clone(sizes), slices.Clone(l.Bases)
			layout.Make(sizes, 5)
			useWithEverything(l, sizes, []int{-1, 0, 1, 10, 11, 20})
			if !slices.Equal(sizes, sizesBefore) || !slices.Equal(l.Bases, basesBefore) {
				t.Errorf("%v, %v has become %v, %v", sizesBefore, basesBefore, sizes, l.Bases)
			}
		}
	}
}

func TestMakeIsNewMemory(t *testing.T) {
	sizes := []int{4, 2}
	first, _ := layout.Make(sizes, 0)
	first.Bases[0], first.Bases[1] = 99, 99
	if sizes[0] != 4 || sizes[1] != 2 {
		t.Error("sizes", sizes)
	}
	if again, errno := layout.Make(sizes, 0); errno != api.OK || !same(again, with(0, 1, 6)) {
		t.Error("Make", again, errno)
	}
}
