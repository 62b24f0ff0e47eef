package cache_test

import (
	"math"
	"slices"
	"testing"

	"redundancy/api"
	"redundancy/cache"
	"redundancy/layout"
	"redundancy/memory"
)

func num(v uint16) api.Cell    { return api.Cell{Tag: api.Num, Val: v} }
func ptr(v uint16) api.Cell    { return api.Cell{Tag: api.Ptr, Val: v} }
func handle(v uint16) api.Cell { return api.Cell{Tag: api.Handle, Val: v} }

// behind is what the memories below have at an address: a cell that no other
// address has.
func behind(addr int) api.Cell {
	return api.Cell{Tag: uint8(addr % 3), Val: uint16(1000 + addr)}
}

// behindLine is what they have at the addresses of a line of memory.
func behindLine(number int) []api.Cell {
	return []api.Cell{behind(4 * number), behind(4*number + 1), behind(4*number + 2), behind(4*number + 3)}
}

// emptyLines is an empty cache, written out so that it does not come from what
// is tested.
func emptyLines() []api.Line { return []api.Line{{Tag: -1}, {Tag: -1}, {Tag: -1}, {Tag: -1}} }

// fresh returns a memory with an empty cache.
func fresh() api.Memory {
	m := api.Memory{Cells: make([]api.Cell, 512), Lines: emptyLines()}
	for addr := range m.Cells {
		m.Cells[addr] = behind(addr)
	}
	return m
}

// inCache is what the cache of filled has at an address.
func inCache(addr int) api.Cell {
	return api.Cell{Tag: uint8(addr+1) % 3, Val: uint16(5000 + addr)}
}

func inCacheLine(number int) []api.Cell {
	return []api.Cell{inCache(4 * number), inCache(4*number + 1), inCache(4*number + 2), inCache(4*number + 3)}
}

// filled returns a memory whose cache has lines of each kind: the line of
// memory 4 is dirty, none is at place 1, 126 is not dirty, 127 is dirty. All
// cells in the cache differ from those behind them.
func filled() api.Memory {
	m := fresh()
	m.Lines[0] = api.Line{Tag: 4, Dirty: true, Cells: inCacheLine(4)}
	m.Lines[2] = api.Line{Tag: 126, Cells: inCacheLine(126)}
	m.Lines[3] = api.Line{Tag: 127, Dirty: true, Cells: inCacheLine(127)}
	return m
}

// held tells the lines of memory that filled holds.
func held(number int) bool { return number == 4 || number == 126 || number == 127 }

// foundInFilled is what a program finds in filled.
func foundInFilled(addr int) api.Cell {
	if held(addr / 4) {
		return inCache(addr)
	}
	return behind(addr)
}

// filledAfterFetch is filled after the line of an address was fetched.
func filledAfterFetch(addr int) api.Memory {
	m, number := filled(), addr/4
	if held(number) {
		return m
	}
	switch number % 4 {
	case 0:
		copy(m.Cells[16:20], inCacheLine(4))
	case 3:
		copy(m.Cells[508:512], inCacheLine(127))
	}
	m.Lines[number%4] = api.Line{Tag: number, Cells: behindLine(number)}
	return m
}

// cachesThatDiffer returns memories with the same cells whose caches hold each
// of some lines of memory, dirty and not.
func cachesThatDiffer() []api.Memory {
	memories := []api.Memory{fresh(), filled()}
	for _, number := range []int{0, 1, 2, 3, 4, 5, 62, 67, 123, 124, 125, 126, 127} {
		for _, dirty := range []bool{false, true} {
			m := fresh()
			m.Lines[number%4] = api.Line{Tag: number, Dirty: dirty, Cells: inCacheLine(number)}
			memories = append(memories, m)
		}
	}
	for _, numbers := range [][4]int{{0, 1, 2, 3}, {124, 125, 126, 127}, {4, 81, 14, 127}} {
		for dirty := range 16 {
			m := fresh()
			for i, number := range numbers {
				m.Lines[i] = api.Line{Tag: number, Dirty: dirty>>i&1 == 1, Cells: inCacheLine(number)}
			}
			memories = append(memories, m)
		}
	}
	return memories
}

func isZero(m api.Memory) bool { return len(m.Cells) == 0 && len(m.Lines) == 0 }

// outside are addresses that are none.
var outside = []int{
	-1, -2, -4, -16, -511, -512, 512, 513, 516, 1024, 1 << 16, 1<<16 + 3, -1 << 16, 1 << 32, 1<<32 + 3,
	math.MaxInt, math.MaxInt - 1, math.MinInt, math.MinInt + 1, math.MinInt + 16,
}

// P5.1

func TestReadOfAnEmptyCache(t *testing.T) {
	for addr := range 512 {
		number := addr / 4
		want := fresh()
		want.Lines[number%4] = api.Line{Tag: number, Cells: behindLine(number)}
		got, c, errno := cache.Read(fresh(), addr)
		if errno != api.OK || c != behind(addr) || !memory.Same(got, want) {
			t.Errorf("Read(%d): %v, %d, lines %v", addr, c, errno, got.Lines)
		}
	}
}

func TestReadOfAFilledCache(t *testing.T) {
	for addr := range 512 {
		got, c, errno := cache.Read(filled(), addr)
		if errno != api.OK || c != foundInFilled(addr) || !memory.Same(got, filledAfterFetch(addr)) {
			t.Errorf("Read(%d): %v, %d, lines %v", addr, c, errno, got.Lines)
		}
	}
}

func TestWriteToAnEmptyCache(t *testing.T) {
	for addr := range 512 {
		for _, c := range []api.Cell{{}, num(65535), ptr(uint16(addr)), handle(40503), behind(addr)} {
			number := addr / 4
			want := fresh()
			want.Lines[number%4] = api.Line{Tag: number, Dirty: true, Cells: behindLine(number)}
			want.Lines[number%4].Cells[addr%4] = c
			got, errno := cache.Write(fresh(), addr, c)
			if errno != api.OK || !memory.Same(got, want) {
				t.Errorf("Write(%d, %v): %d, lines %v", addr, c, errno, got.Lines)
			}
		}
	}
}

func TestWriteToAFilledCache(t *testing.T) {
	for addr := range 512 {
		for _, c := range []api.Cell{{}, num(65535), ptr(uint16(addr)), handle(40503), foundInFilled(addr)} {
			want := filledAfterFetch(addr)
			line := &want.Lines[addr/4%4]
			line.Dirty, line.Cells[addr%4] = true, c
			got, errno := cache.Write(filled(), addr, c)
			if errno != api.OK || !memory.Same(got, want) {
				t.Errorf("Write(%d, %v): %d, lines %v", addr, c, errno, got.Lines)
			}
		}
	}
}

func TestExampleOfTheChapter(t *testing.T) {
	m, errno := cache.Write(fresh(), 0, num(7))
	if errno != api.OK || m.Cells[0] != behind(0) {
		t.Fatal("the memory keeps the old cell", m.Cells[0], errno)
	}
	m, c, errno := cache.Read(m, 16)
	if errno != api.OK || c != behind(16) || m.Cells[0] != num(7) {
		t.Error(m.Cells[0], c, errno)
	}
	want := fresh()
	want.Cells[0] = num(7)
	want.Lines[0] = api.Line{Tag: 4, Cells: behindLine(4)}
	if !memory.Same(m, want) {
		t.Error("something else has changed", m.Lines)
	}
}

// A line that is not dirty is not written back, whatever it has.
func TestWriteBackOfEachLine(t *testing.T) {
	for number := range 128 {
		for _, next := range []int{number % 4, (number + 4) % 128, (number + 64) % 128, 124 + number%4} {
			if next == number {
				continue
			}
			for _, dirty := range []bool{false, true} {
				m := fresh()
				m.Lines[number%4] = api.Line{Tag: number, Dirty: dirty, Cells: inCacheLine(number)}
				want := fresh()
				if dirty {
					copy(want.Cells[4*number:4*number+4], inCacheLine(number))
				}
				want.Lines[number%4] = api.Line{Tag: next, Cells: behindLine(next)}
				got, c, errno := cache.Read(m, 4*next+2)
				if errno != api.OK || c != behind(4*next+2) || !memory.Same(got, want) {
					t.Errorf("line %d, dirty %v, behind it line %d: %v, %d", number, dirty, next, c, errno)
				}
				want.Lines[number%4].Dirty = true
				want.Lines[number%4].Cells[2] = num(3)
				if got, errno := cache.Write(m, 4*next+2, num(3)); errno != api.OK || !memory.Same(got, want) {
					t.Errorf("line %d, dirty %v, behind it line %d, written: %d", number, dirty, next, errno)
				}
			}
		}
	}
}

func TestSeveralWritesIntoOneLine(t *testing.T) {
	m := fresh()
	for i := range 4 {
		m, _ = cache.Write(m, 40+i, num(uint16(i)))
	}
	m, _ = cache.Write(m, 41, ptr(9))
	want := fresh()
	want.Lines[2] = api.Line{Tag: 10, Dirty: true, Cells: []api.Cell{num(0), ptr(9), num(2), num(3)}}
	if !memory.Same(m, want) {
		t.Error("before the line is written back", m.Lines)
	}
	m, _, _ = cache.Read(m, 11)
	copy(want.Cells[40:44], want.Lines[2].Cells)
	want.Lines[2] = api.Line{Tag: 2, Cells: behindLine(2)}
	if !memory.Same(m, want) {
		t.Error("after it", m.Lines)
	}
}

func TestAddressesOutsideAreErrRange(t *testing.T) {
	for _, m := range []api.Memory{fresh(), filled()} {
		for _, addr := range outside {
			if got, c, errno := cache.Read(m, addr); !isZero(got) || c != (api.Cell{}) || errno != api.ErrRange {
				t.Errorf("Read(%d): %v, %v, %d", addr, got, c, errno)
			}
			for _, c := range []api.Cell{{}, num(1), ptr(2), handle(3)} {
				if got, errno := cache.Write(m, addr, c); !isZero(got) || errno != api.ErrRange {
					t.Errorf("Write(%d, %v): %v, %d", addr, c, got, errno)
				}
			}
		}
	}
}

func TestWriteOfACellThatIsNotValidIsErrArg(t *testing.T) {
	for tag := 3; tag <= 255; tag++ {
		for _, addr := range append([]int{0, 16, 17, 511}, outside...) {
			for _, val := range []uint16{0, 1, 65535} {
				got, errno := cache.Write(filled(), addr, api.Cell{Tag: uint8(tag), Val: val})
				if !isZero(got) || errno != api.ErrArg {
					t.Errorf("Write(%d, tag %d) = %v, %d", addr, tag, got, errno)
				}
			}
		}
	}
}

// P5.2: See

func TestSee(t *testing.T) {
	for addr := range 512 {
		if c, errno := cache.See(fresh(), addr); c != behind(addr) || errno != api.OK {
			t.Errorf("See(%d) of an empty cache: %v, %d", addr, c, errno)
		}
		if c, errno := cache.See(filled(), addr); c != foundInFilled(addr) || errno != api.OK {
			t.Errorf("See(%d) of a filled cache: %v, %d", addr, c, errno)
		}
	}
}

func TestSeeIsWhatReadReturns(t *testing.T) {
	for i, m := range cachesThatDiffer() {
		for addr := -20; addr < 540; addr++ {
			_, want, wantErrno := cache.Read(m, addr)
			if c, errno := cache.See(m, addr); c != want || errno != wantErrno {
				t.Errorf("memory %d, See(%d): %v, %d", i, addr, c, errno)
			}
		}
	}
}

func TestSeeOutsideIsErrRange(t *testing.T) {
	for _, addr := range outside {
		if c, errno := cache.See(filled(), addr); c != (api.Cell{}) || errno != api.ErrRange {
			t.Errorf("See(%d): %v, %d", addr, c, errno)
		}
	}
}

// P5.2: Flush and Drop

func TestFlush(t *testing.T) {
	want := fresh()
	copy(want.Cells[16:20], inCacheLine(4))
	copy(want.Cells[508:512], inCacheLine(127))
	if got := cache.Flush(filled()); !memory.Same(got, want) {
		t.Error("filled", got.Lines)
	}
	if got := cache.Flush(fresh()); !memory.Same(got, fresh()) {
		t.Error("fresh", got.Lines)
	}
}

func TestFlushOfEachLine(t *testing.T) {
	for number := range 128 {
		m := fresh()
		m.Lines[number%4] = api.Line{Tag: number, Cells: inCacheLine(number)}
		if got := cache.Flush(m); !memory.Same(got, fresh()) {
			t.Errorf("line %d that is not dirty: %v", number, got.Lines)
		}
		m.Lines[number%4].Dirty = true
		want := fresh()
		copy(want.Cells[4*number:4*number+4], inCacheLine(number))
		if got := cache.Flush(m); !memory.Same(got, want) {
			t.Errorf("line %d: %v", number, got.Lines)
		}
	}
}

func TestDrop(t *testing.T) {
	for i, m := range cachesThatDiffer() {
		if got := cache.Drop(m); !memory.Same(got, fresh()) {
			t.Errorf("memory %d: %v", i, got.Lines)
		}
	}
}

// P5.2: Regions

func TestRegions(t *testing.T) {
	l := api.Layout{Bases: []int{30, 10, 509}, Key: 40503}
	m := fresh()
	for addr := range m.Cells {
		m.Cells[addr] = num(uint16(addr))
	}
	m.Cells[10], m.Cells[11], m.Cells[509] = ptr(31), handle(7), ptr(9)
	// What the cache holds is seen, dirty or not: 30 and 31 are in line 7, 12
	// and 13 in line 3, which has the same place and is not held.
	m.Lines[3] = api.Line{Tag: 7, Cells: []api.Cell{num(1), num(2), ptr(511), handle(40503)}}
	m.Lines[1] = api.Line{Tag: 125, Dirty: true, Cells: slices.Repeat([]api.Cell{handle(1)}, 4)}
	want := [][]api.Canon{
		{{Tag: api.Ptr, Region: 2, Offset: 2}, {Tag: api.Handle}},
		{{Tag: api.Ptr, Region: 0, Offset: 1}, {Tag: api.Handle, Val: 25040}, {Val: 12}},
		{{Tag: api.Ptr, Region: -1, Offset: 9}, {Val: 510}, {Val: 511}},
	}
	if got := cache.Regions(m, l, []int{2, 3, 3}); !slices.EqualFunc(got, want, slices.Equal) {
		t.Error(got)
	}
}

func TestRegionsOfTheExtremes(t *testing.T) {
	for _, c := range []struct{ bases, sizes []int }{
		{[]int{0}, []int{1}},
		{[]int{511}, []int{1}},
		{[]int{0}, []int{32}},
		{[]int{480}, []int{32}},
		{[]int{1, 6}, []int{4, 2}},
		{[]int{400, 0, 479, 40}, []int{32, 32, 32, 32}},
	} {
		l := api.Layout{Bases: c.bases, Key: 77}
		for i, m := range cachesThatDiffer() {
			got := cache.Regions(m, l, c.sizes)
			if len(got) != len(c.sizes) {
				t.Fatalf("bases %v: %d regions", c.bases, len(got))
			}
			for r, size := range c.sizes {
				if len(got[r]) != size {
					t.Fatalf("bases %v: region %d has %d cells", c.bases, r, len(got[r]))
				}
				for offset, x := range got[r] {
					found, _ := cache.See(m, c.bases[r]+offset)
					if want := layout.Canon(l, c.sizes, found); x != want {
						t.Errorf("memory %d, bases %v, region %d, offset %d: %v", i, c.bases, r, offset, x)
					}
				}
			}
		}
	}
}

// The same places have the same canonical cells in every layout and behind
// every cache.
func TestRegionsDoNotDependOnTheLayout(t *testing.T) {
	sizes := []int{4, 2, 9}
	want := [][]api.Canon{make([]api.Canon, 4), make([]api.Canon, 2), make([]api.Canon, 9)}
	for i := range 40 {
		p, target := placeOf(sizes, i*7), placeOf(sizes, i*11)
		switch i % 3 {
		case 0:
			want[p.Region][p.Offset] = api.Canon{Val: uint16(i)}
		case 1:
			want[p.Region][p.Offset] = api.Canon{Tag: api.Ptr, Region: target.Region, Offset: target.Offset}
		case 2:
			want[p.Region][p.Offset] = api.Canon{Tag: api.Handle, Val: uint16(i)}
		}
	}
	for seed := range 500 {
		l, _ := layout.Make(sizes, seed)
		m, _ := memory.Load(api.Program{Sizes: sizes, Data: make([][]uint16, 3)}, l)
		for r := range want {
			for offset, x := range want[r] {
				raw, _ := layout.Raw(l, sizes, x)
				m, _ = cache.Write(m, l.Bases[r]+offset, raw)
			}
		}
		for _, behindCache := range []api.Memory{m, cache.Flush(m)} {
			if got := cache.Regions(behindCache, l, sizes); !slices.EqualFunc(got, want, slices.Equal) {
				t.Fatalf("seed %d: %v", seed, got)
			}
		}
	}
}

// placeOf goes around the places of all regions.
func placeOf(sizes []int, i int) api.Place {
	for r := 0; ; r = (r + 1) % len(sizes) {
		if i < sizes[r] {
			return api.Place{Region: r, Offset: i}
		}
		i -= sizes[r]
	}
}

// Consequences

// steps calls f with the numbers of a sequence that goes through near and far
// addresses, from a beginning that differs for each seed.
func steps(seed, n int, f func(i, addr int, c api.Cell)) {
	x := uint32(seed)*2654435761 + 1
	addr := 0
	for i := range n {
		x = x*1664525 + 1013904223
		if x>>28 < 6 {
			addr = int(x >> 12 & 511)
		} else {
			addr = (addr + int(x>>24&31) - 8 + 512) % 512
		}
		f(i, addr, api.Cell{Tag: uint8(x >> 8 % 3), Val: uint16(x >> 9)})
	}
}

func TestAProgramSeesAPlainMemory(t *testing.T) {
	for seed := range 40 {
		m := fresh()
		plain := slices.Clone(m.Cells)
		steps(seed, 500, func(i, addr int, c api.Cell) {
			errno := api.OK
			if c.Val%5 < 2 {
				plain[addr] = c
				m, errno = cache.Write(m, addr, c)
			} else {
				var found api.Cell
				m, found, errno = cache.Read(m, addr)
				if found != plain[addr] {
					t.Fatalf("seed %d, step %d: Read(%d) = %v", seed, i, addr, found)
				}
			}
			if errno != api.OK || !memory.Valid(m) {
				t.Fatalf("seed %d, step %d: %d, %v", seed, i, errno, m.Lines)
			}
		})
		if !slices.Equal(cache.Flush(m).Cells, plain) {
			t.Errorf("seed %d: the flushed memory differs", seed)
		}
	}
}

func TestFlushChangesNothingThatSeeFinds(t *testing.T) {
	for seed := range 20 {
		m := fresh()
		steps(seed, 60, func(i, addr int, c api.Cell) {
			if i%3 == 0 {
				m, _, _ = cache.Read(m, addr)
			} else {
				m, _ = cache.Write(m, addr, c)
			}
		})
		flushed := cache.Flush(m)
		for addr := range 512 {
			before, _ := cache.See(m, addr)
			if after, errno := cache.See(flushed, addr); after != before || errno != api.OK {
				t.Errorf("seed %d, address %d: %v, %d", seed, addr, after, errno)
			}
		}
		if !memory.Same(cache.Flush(flushed), flushed) || !memory.Same(cache.Drop(flushed), flushed) {
			t.Errorf("seed %d: a flushed memory changes", seed)
		}
	}
}

func TestAChangeBehindTheCacheIsNotSeen(t *testing.T) {
	clean, _, _ := cache.Read(fresh(), 21)
	dirty, _ := cache.Write(fresh(), 20, num(3))
	for name, m := range map[string]api.Memory{"clean": clean, "dirty": dirty} {
		m, _ = memory.Poke(m, 21, num(9))
		if c, _ := cache.See(m, 21); c != behind(21) {
			t.Errorf("%s: See = %v", name, c)
		}
		if _, c, _ := cache.Read(m, 21); c != behind(21) {
			t.Errorf("%s: Read = %v", name, c)
		}
		m, _, _ = cache.Read(m, 37)
		want := num(9)
		if name == "dirty" {
			want = behind(21)
		}
		if c, _ := cache.See(m, 21); c != want {
			t.Errorf("%s: after another line took its place: %v", name, c)
		}
	}
}

func TestAChangeOfALineThatIsNotDirtyIsLost(t *testing.T) {
	m, _, _ := cache.Read(fresh(), 21)
	m.Lines[1].Cells[1] = num(9)
	if c, _ := cache.See(m, 21); c != num(9) {
		t.Error("it is seen at first", c)
	}
	if n, _, _ := cache.Read(m, 37); n.Cells[21] != behind(21) {
		t.Error("another line took its place", n.Cells[21])
	}
	if n := cache.Flush(m); n.Cells[21] != behind(21) {
		t.Error("Flush", n.Cells[21])
	}
}

// R1

func memoriesThatAreNotValid() []api.Memory {
	memories := []api.Memory{{}, {Cells: fresh().Cells}, {Lines: filled().Lines}}
	for _, n := range []int{0, 1, 3, 5, 511, 513, 700} {
		memories = append(memories,
			api.Memory{Cells: make([]api.Cell, n)},
			api.Memory{Cells: slices.Repeat([]api.Cell{{Tag: 9, Val: 7}}, n), Lines: filled().Lines},
			api.Memory{Cells: fresh().Cells, Lines: make([]api.Line, n)})
	}
	for _, tag := range []int{math.MinInt, math.MinInt + 1, -5, -4, -2, -1, 0, 1, 2, 127, 128, 1 << 20, 1 << 62, math.MaxInt} {
		for _, n := range []int{0, 1, 3, 4, 5, 600} {
			line := api.Line{Tag: tag, Dirty: true, Cells: slices.Repeat([]api.Cell{{Tag: 77}}, n)}
			memories = append(memories,
				api.Memory{Cells: fresh().Cells, Lines: slices.Repeat([]api.Line{line}, 4)},
				api.Memory{Cells: make([]api.Cell, 100), Lines: slices.Repeat([]api.Line{line}, 4)})
		}
	}
	return memories
}

func TestMemoriesThatAreNotValidDoNoHarm(t *testing.T) {
	l := api.Layout{Bases: []int{1, 40}, Key: 3}
	for i, m := range memoriesThatAreNotValid() {
		before := memory.Copy(m)
		for _, addr := range append([]int{0, 1, 2, 3, 4, 15, 16, 99, 100, 510, 511}, outside...) {
			_, seeErrno := cache.See(m, addr)
			read, _, readErrno := cache.Read(m, addr)
			written, writeErrno := cache.Write(m, addr, ptr(1))
			if seeErrno == api.OK || readErrno != seeErrno || writeErrno != seeErrno || !isZero(read) || !isZero(written) {
				t.Errorf("memory %d, address %d: %d, %d, %d", i, addr, seeErrno, readErrno, writeErrno)
			}
			if _, errno := cache.Write(m, addr, api.Cell{Tag: 3}); errno != api.ErrArg {
				t.Errorf("memory %d, address %d, no cell: %d", i, addr, errno)
			}
		}
		flushed, dropped := cache.Flush(m), cache.Drop(m)
		cache.Regions(m, l, []int{32, 4})
		if !memory.Same(m, before) {
			t.Errorf("memory %d has changed", i)
		}
		spoil(flushed)
		spoil(dropped)
		if !memory.Same(m, before) {
			t.Errorf("a result shares memory with memory %d", i)
		}
	}
}

func TestLayoutsThatAreNotValidDoNoHarm(t *testing.T) {
	for _, c := range []struct{ bases, sizes []int }{
		{nil, nil},
		{nil, []int{4, 2}},
		{[]int{1, 6}, nil},
		{[]int{1}, []int{4, 2}},
		{[]int{1, 6, 9}, []int{4, 2}},
		{[]int{1, 5}, []int{4, 2}},
		{[]int{-1, 6}, []int{4, 2}},
		{[]int{1, 511}, []int{4, 2}},
		{[]int{1, math.MaxInt}, []int{4, 2}},
		{[]int{1, math.MinInt}, []int{4, 2}},
		{[]int{1, 6}, []int{4, 0}},
		{[]int{1, 6}, []int{4, -2}},
		{[]int{1, 6}, []int{4, 33}},
		{[]int{1, 6}, []int{4, math.MaxInt}},
		{[]int{1, 6}, []int{math.MinInt, 2}},
		{[]int{1, 3, 5, 7, 9}, []int{1, 1, 1, 1, 1}},
	} {
		if got := cache.Regions(filled(), api.Layout{Bases: c.bases}, c.sizes); len(got) != 0 {
			t.Errorf("bases %v, sizes %v: %v", c.bases, c.sizes, got)
		}
	}
}

// R2

// spoil overwrites everything that a memory reaches, what lies behind the ends
// of its slices included.
func spoil(m api.Memory) {
	spoilCells(m.Cells)
	for _, line := range m.Lines {
		spoilCells(line.Cells)
	}
	lines := m.Lines[:cap(m.Lines)]
	for i := range lines {
		lines[i] = api.Line{Tag: 99, Dirty: true}
	}
}

func spoilCells(cells []api.Cell) {
	cells = cells[:cap(cells)]
	for i := range cells {
		cells[i] = api.Cell{Tag: 99, Val: 99}
	}
}

// results returns what each function makes of a memory and an address.
func results(m api.Memory, addr int) []api.Memory {
	read, _, _ := cache.Read(m, addr)
	written, _ := cache.Write(m, addr, ptr(77))
	return []api.Memory{read, written, cache.Flush(m), cache.Drop(m)}
}

func TestArgumentsAreNotChangedNorKept(t *testing.T) {
	for addr := range 512 {
		m := filled()
		all := results(m, addr)
		cache.See(m, addr)
		l, sizes := api.Layout{Bases: []int{30, 10}, Key: 5}, []int{2, 3}
		regions := cache.Regions(m, l, sizes)
		if !memory.Same(m, filled()) || !slices.Equal(l.Bases, []int{30, 10}) || !slices.Equal(sizes, []int{2, 3}) {
			t.Fatalf("address %d: an argument has changed", addr)
		}
		for i, result := range all {
			spoil(result)
			if !memory.Same(m, filled()) {
				t.Fatalf("address %d: result %d shares memory with the argument", addr, i)
			}
		}
		for i := range regions {
			regions[i] = regions[i][:cap(regions[i])]
			clear(regions[i])
		}
		if again := cache.Regions(m, l, sizes); again[0][0] != (api.Canon{Tag: api.Num, Val: 1030}) {
			t.Fatal("Regions", again)
		}
	}
}

// What is read into a line is a copy: neither a change of the line changes the
// cells of the memory, nor the other way round.
func TestSlicesOfAResultAreIndependent(t *testing.T) {
	for addr := range 512 {
		for i, result := range results(filled(), addr) {
			again := results(filled(), addr)[i]
			for k := range result.Lines {
				spoilCells(result.Lines[k].Cells)
				result.Lines[k].Cells = again.Lines[k].Cells
				if !memory.Same(result, again) {
					t.Errorf("address %d, result %d: line %d shares memory", addr, i, k)
				}
			}
		}
	}
	regions := cache.Regions(fresh(), api.Layout{Bases: []int{1, 6, 12}}, []int{4, 4, 4})
	for r := range regions {
		before := slices.Clone(regions[(r+1)%3])
		cells := regions[r][:cap(regions[r])]
		for i := range cells {
			cells[i] = api.Canon{Tag: 99}
		}
		if !slices.Equal(regions[(r+1)%3], before) {
			t.Errorf("region %d shares memory with the next one", r)
		}
	}
}
