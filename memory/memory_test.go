package memory_test

import (
	"math"
	"slices"
	"testing"

	"redundancy/api"
	"redundancy/layout"
	"redundancy/memory"
)

func num(v uint16) api.Cell    { return api.Cell{Tag: api.Num, Val: v} }
func ptr(v uint16) api.Cell    { return api.Cell{Tag: api.Ptr, Val: v} }
func handle(v uint16) api.Cell { return api.Cell{Tag: api.Handle, Val: v} }

// numbersFrom returns n cells whose values are first and the following ones.
func numbersFrom(first uint16, n int) []api.Cell {
	cells := make([]api.Cell, n)
	for i := range cells {
		cells[i] = num(first + uint16(i))
	}
	return cells
}

// fresh returns a memory of zero numbers with an empty cache. It is written
// out here, so that what Load does is not checked against itself.
func fresh() api.Memory {
	return api.Memory{Cells: make([]api.Cell, 512), Lines: []api.Line{{Tag: -1}, {Tag: -1}, {Tag: -1}, {Tag: -1}}}
}

// filled returns a valid memory in which each cell differs from all others, with
// lines of the cache that differ from what lies behind them.
func filled() api.Memory {
	m := fresh()
	for addr := range m.Cells {
		m.Cells[addr] = api.Cell{Tag: uint8(addr % 3), Val: uint16(1000 + addr)}
	}
	m.Lines[0] = api.Line{Tag: 4, Dirty: true, Cells: []api.Cell{num(1), ptr(2), handle(3), num(4)}}
	m.Lines[2] = api.Line{Tag: 126, Cells: []api.Cell{handle(5), num(6), num(7), ptr(8)}}
	m.Lines[3] = api.Line{Tag: 127, Dirty: true, Cells: numbersFrom(9, 4)}
	return m
}

// equal says what Same says, cell by cell.
func equal(a, b api.Memory) bool {
	if !slices.Equal(a.Cells, b.Cells) || len(a.Lines) != len(b.Lines) {
		return false
	}
	for i, line := range a.Lines {
		other := b.Lines[i]
		if line.Tag != other.Tag || line.Dirty != other.Dirty || !slices.Equal(line.Cells, other.Cells) {
			return false
		}
	}
	return true
}

func isZero(m api.Memory) bool { return len(m.Cells) == 0 && len(m.Lines) == 0 }

// P4.1: Valid

func TestValidMemories(t *testing.T) {
	for name, m := range map[string]api.Memory{"fresh": fresh(), "filled": filled()} {
		if !memory.Valid(m) {
			t.Error(name)
		}
	}
	m := fresh()
	m.Lines[1].Cells = []api.Cell{}
	if !memory.Valid(m) {
		t.Error("an empty slice is not nil")
	}
}

func TestValidNeedsSpaceCells(t *testing.T) {
	for _, n := range []int{0, 1, 256, 511, 512, 513, 1024} {
		m := fresh()
		m.Cells = make([]api.Cell, n)
		if got := memory.Valid(m); got != (n == 512) {
			t.Errorf("%d cells: %v", n, got)
		}
	}
	m := fresh()
	m.Cells = nil
	if memory.Valid(m) || memory.Valid(api.Memory{}) {
		t.Error("no cells")
	}
}

func TestValidNeedsValidCells(t *testing.T) {
	for addr := range 512 {
		for _, tag := range []uint8{0, 1, 2, 3, 4, 128, 255} {
			m := fresh()
			m.Cells[addr] = api.Cell{Tag: tag, Val: 65535}
			if got := memory.Valid(m); got != (tag <= 2) {
				t.Errorf("the tag %d at %d: %v", tag, addr, got)
			}
		}
	}
}

func TestValidNeedsFourLines(t *testing.T) {
	for n := range 9 {
		m := fresh()
		m.Lines = make([]api.Line, n)
		for i := range m.Lines {
			m.Lines[i].Tag = -1
		}
		if got := memory.Valid(m); got != (n == 4) {
			t.Errorf("%d lines: %v", n, got)
		}
	}
}

func TestValidTagsOfLines(t *testing.T) {
	tags := []int{math.MinInt, math.MinInt + 1, math.MinInt + 3, -1 << 32, 1 << 16, 1 << 32, 1<<32 + 1, math.MaxInt - 3, math.MaxInt}
	for tag := -20; tag <= 600; tag++ {
		tags = append(tags, tag)
	}
	for i := range 4 {
		for _, tag := range tags {
			for _, dirty := range []bool{false, true} {
				m := fresh()
				m.Lines[i] = api.Line{Tag: tag, Dirty: dirty, Cells: numbersFrom(7, 4)}
				want := tag >= 0 && tag <= 127 && tag&3 == i
				if got := memory.Valid(m); got != want {
					t.Errorf("line %d, tag %d, dirty %v: %v", i, tag, dirty, got)
				}
				// Without cells a line is valid only if it is empty.
				m.Lines[i].Cells = nil
				want = tag == -1 && !dirty
				if got := memory.Valid(m); got != want {
					t.Errorf("line %d, tag %d, dirty %v, no cells: %v", i, tag, dirty, got)
				}
			}
		}
	}
}

func TestValidCellsOfLines(t *testing.T) {
	for i := range 4 {
		for n := range 20 {
			m := fresh()
			m.Lines[i] = api.Line{Tag: 8 + i, Cells: numbersFrom(1, n)}
			if got := memory.Valid(m); got != (n == 4) {
				t.Errorf("line %d with %d cells: %v", i, n, got)
			}
			m.Lines[i] = api.Line{Tag: -1, Cells: numbersFrom(1, n)}
			if got := memory.Valid(m); got != (n == 0) {
				t.Errorf("empty line %d with %d cells: %v", i, n, got)
			}
		}
		for k := range 4 {
			for _, tag := range []uint8{0, 1, 2, 3, 4, 128, 255} {
				m := filled()
				m.Lines[i] = api.Line{Tag: 8 + i, Dirty: true, Cells: numbersFrom(1, 4)}
				m.Lines[i].Cells[k].Tag = tag
				if got := memory.Valid(m); got != (tag <= 2) {
					t.Errorf("line %d, cell %d, tag %d: %v", i, k, tag, got)
				}
			}
		}
	}
}

// P4.1: Load

func TestLoad(t *testing.T) {
	long := make([]uint16, 32)
	for i := range long {
		long[i] = uint16(65535 - i)
	}
	for _, c := range []struct {
		name  string
		sizes []int
		data  [][]uint16
		bases []int
	}{
		{"the example", []int{3}, [][]uint16{{7, 8}}, []int{1}},
		{"no words", []int{3}, [][]uint16{nil}, []int{1}},
		{"an empty list", []int{3}, [][]uint16{{}}, []int{1}},
		{"a full region", []int{3}, [][]uint16{{7, 8, 9}}, []int{1}},
		{"one word", []int{1}, [][]uint16{{65535}}, []int{0}},
		{"the last address", []int{1}, [][]uint16{{65535}}, []int{511}},
		{"the longest region at the beginning", []int{32}, [][]uint16{long}, []int{0}},
		{"the longest region at the end", []int{32}, [][]uint16{long}, []int{480}},
		{"two", []int{3, 2}, [][]uint16{{7, 8}, {9, 10}}, []int{1, 510}},
		{"two, the second one first", []int{3, 2}, [][]uint16{{7, 8}, {9}}, []int{100, 3}},
		{"two, next to each other", []int{4, 2}, [][]uint16{{1, 2, 3, 4}, {5, 6}}, []int{1, 6}},
		{"two, the first one without words", []int{4, 2}, [][]uint16{nil, {5, 6}}, []int{1, 6}},
		{"four", []int{32, 1, 32, 2}, [][]uint16{long, {3}, long[16:], {4, 0}}, []int{300, 200, 100, 0}},
		{"words that look like addresses", []int{2, 2}, [][]uint16{{1, 2}, {5, 6}}, []int{1, 5}},
	} {
		want := fresh()
		for r, words := range c.data {
			for i, v := range words {
				want.Cells[c.bases[r]+i] = num(v)
			}
		}
		for _, key := range []uint16{0, 1, 65535} {
			got, errno := memory.Load(api.Program{Sizes: c.sizes, Data: c.data}, api.Layout{Bases: c.bases, Key: key})
			if errno != api.OK || !equal(got, want) || !memory.Valid(got) {
				t.Errorf("%s: %v, %d", c.name, got, errno)
			}
		}
	}
}

func TestLoadInEachLayout(t *testing.T) {
	sizes, data := []int{4, 2, 9}, [][]uint16{{1, 2, 3}, {4, 5}, {6, 7, 8, 9}}
	for seed := range 3000 {
		l, _ := layout.Make(sizes, seed)
		want := fresh()
		for r, words := range data {
			for i, v := range words {
				addr, _ := layout.Address(l, sizes, api.Place{Region: r, Offset: i})
				want.Cells[addr] = num(v)
			}
		}
		got, errno := memory.Load(api.Program{Sizes: sizes, Data: data}, l)
		if errno != api.OK || !equal(got, want) {
			t.Fatalf("seed %d: %v, %d", seed, got, errno)
		}
	}
}

func TestLoadIsErrArg(t *testing.T) {
	for _, c := range []struct {
		name  string
		sizes []int
		data  [][]uint16
		bases []int
	}{
		{"nothing", nil, nil, nil},
		{"no regions", []int{}, [][]uint16{}, []int{}},
		{"no layout", []int{3, 2}, [][]uint16{{7, 8}, nil}, nil},
		{"a base too few", []int{3, 2}, [][]uint16{{7, 8}, nil}, []int{1}},
		{"a base too many", []int{3, 2}, [][]uint16{{7, 8}, nil}, []int{1, 10, 20}},
		{"a region behind the addresses", []int{3, 2}, [][]uint16{{7, 8}, nil}, []int{1, 511}},
		{"data behind the addresses", []int{3}, [][]uint16{{7, 8, 9}}, []int{510}},
		{"a region before the addresses", []int{3, 2}, [][]uint16{{7, 8}, nil}, []int{-1, 10}},
		{"the least base", []int{3, 2}, [][]uint16{{7, 8}, nil}, []int{math.MinInt, 10}},
		{"the greatest base", []int{3, 2}, [][]uint16{{7, 8}, nil}, []int{math.MaxInt, 10}},
		{"regions without an address between", []int{3, 2}, [][]uint16{{7, 8}, nil}, []int{1, 4}},
		{"regions at the same base", []int{3, 2}, [][]uint16{nil, nil}, []int{1, 1}},
		{"an empty region", []int{3, 0}, [][]uint16{{7, 8}, nil}, []int{1, 10}},
		{"a negative size", []int{3, -1}, [][]uint16{{7, 8}, nil}, []int{1, 10}},
		{"a size too large", []int{33}, [][]uint16{{7, 8}}, []int{1}},
		{"the greatest size", []int{math.MaxInt}, [][]uint16{{7, 8}}, []int{1}},
		{"five regions", []int{1, 1, 1, 1, 1}, [][]uint16{nil, nil, nil, nil, nil}, []int{0, 2, 4, 6, 8}},
		{"no data", []int{3, 2}, nil, []int{1, 510}},
		{"no data of one region", []int{3}, nil, []int{1}},
		{"a list too few", []int{3, 2}, [][]uint16{{7, 8}}, []int{1, 510}},
		{"a list too many", []int{3, 2}, [][]uint16{{7, 8}, {9}, nil}, []int{1, 510}},
		{"a list too many for one region", []int{3}, [][]uint16{{7, 8}, nil}, []int{1}},
		{"a word too many in the first region", []int{3, 2}, [][]uint16{{1, 2, 3, 4}, nil}, []int{1, 510}},
		{"a word too many in the last region", []int{3, 2}, [][]uint16{nil, {1, 2, 3}}, []int{1, 10}},
		{"a word too many, a zero", []int{3, 2}, [][]uint16{{1, 2, 3, 0}, nil}, []int{1, 10}},
		{"a word too many in the middle", []int{3, 2, 4}, [][]uint16{nil, {1, 2, 3}, nil}, []int{1, 10, 20}},
		{"more words than addresses", []int{32}, [][]uint16{make([]uint16, 1000)}, []int{480}},
		{"words of the lists exchanged", []int{3, 2}, [][]uint16{{1, 2}, {1, 2, 3}}, []int{1, 10}},
	} {
		got, errno := memory.Load(api.Program{Sizes: c.sizes, Data: c.data}, api.Layout{Bases: c.bases})
		if errno != api.ErrArg || !isZero(got) {
			t.Errorf("%s: %v, %d", c.name, got, errno)
		}
	}
}

func TestLoadDoesNotLookAtTheCode(t *testing.T) {
	want := fresh()
	want.Cells[5], want.Cells[6] = num(7), num(8)
	for _, code := range [][]api.Instr{
		nil, {}, {{Op: api.OpSys}}, {{Op: -1, A: 99, B: -5, C: math.MaxInt, Imm: math.MinInt}}, make([]api.Instr, 65),
	} {
		p := api.Program{Code: code, Sizes: []int{3}, Data: [][]uint16{{7, 8}}}
		if got, errno := memory.Load(p, api.Layout{Bases: []int{5}}); errno != api.OK || !equal(got, want) {
			t.Errorf("code %v: %d", code, errno)
		}
		p.Data = nil
		if got, errno := memory.Load(p, api.Layout{Bases: []int{5}}); errno != api.ErrArg || !isZero(got) {
			t.Errorf("code %v without data: %d", code, errno)
		}
	}
}

// P4.1: Same and Copy

// changes returns a function for each change of a filled memory that Same has
// to notice: of each cell, of each field of each line, and of lengths.
func changes() []func(m *api.Memory) {
	all := []func(m *api.Memory){
		func(m *api.Memory) { m.Cells = m.Cells[:511] },
		func(m *api.Memory) { m.Cells = m.Cells[1:] },
		func(m *api.Memory) { m.Cells = append(m.Cells, api.Cell{}) },
		func(m *api.Memory) { m.Cells = nil },
		func(m *api.Memory) { m.Lines = m.Lines[:3] },
		func(m *api.Memory) { m.Lines = append(m.Lines, api.Line{Tag: -1}) },
		func(m *api.Memory) { m.Lines = nil },
		func(m *api.Memory) { m.Lines[0], m.Lines[3] = m.Lines[3], m.Lines[0] },
		func(m *api.Memory) { m.Lines[0].Cells = nil },
		func(m *api.Memory) { m.Lines[2].Cells = m.Lines[2].Cells[:3] },
		func(m *api.Memory) { m.Lines[2].Cells = append(m.Lines[2].Cells, api.Cell{}) },
		func(m *api.Memory) { m.Lines[1].Cells = make([]api.Cell, 4) },
	}
	for addr := range 512 {
		all = append(all,
			func(m *api.Memory) { m.Cells[addr].Val ^= 1 },
			func(m *api.Memory) { m.Cells[addr].Val ^= 1 << 15 },
			func(m *api.Memory) { m.Cells[addr].Tag = (m.Cells[addr].Tag + 1) % 3 })
	}
	for i := range 4 {
		all = append(all,
			func(m *api.Memory) { m.Lines[i].Dirty = !m.Lines[i].Dirty },
			func(m *api.Memory) { m.Lines[i].Tag += 4 },
			func(m *api.Memory) { m.Lines[i].Tag = i },
			func(m *api.Memory) { m.Lines[i].Tag = math.MaxInt })
	}
	for _, i := range []int{0, 2, 3} {
		for k := range 4 {
			all = append(all,
				func(m *api.Memory) { m.Lines[i].Cells[k].Val ^= 1 },
				func(m *api.Memory) { m.Lines[i].Cells[k].Val ^= 1 << 15 },
				func(m *api.Memory) { m.Lines[i].Cells[k].Tag = (m.Lines[i].Cells[k].Tag + 1) % 3 })
		}
	}
	return all
}

func TestSame(t *testing.T) {
	for _, m := range []api.Memory{fresh(), filled(), {}, {Cells: numbersFrom(0, 3)}, {Lines: []api.Line{{Tag: 900, Dirty: true}}}} {
		if !memory.Same(m, m) {
			t.Errorf("%v is not itself", m)
		}
	}
	if !memory.Same(fresh(), fresh()) || !memory.Same(filled(), filled()) || memory.Same(fresh(), filled()) {
		t.Error("fresh and filled")
	}
	for i, change := range changes() {
		m := filled()
		change(&m)
		if memory.Same(m, filled()) || memory.Same(filled(), m) {
			t.Errorf("change %d is not noticed", i)
		}
	}
}

func TestSameTakesNilAndEmptyAsEqual(t *testing.T) {
	m := fresh()
	for i := range m.Lines {
		m.Lines[i].Cells = []api.Cell{}
	}
	if !memory.Same(m, fresh()) || !memory.Same(fresh(), m) {
		t.Error("cells of lines")
	}
	empty := api.Memory{Cells: []api.Cell{}, Lines: []api.Line{}}
	if !memory.Same(empty, api.Memory{}) || !memory.Same(api.Memory{}, empty) {
		t.Error("cells and lines")
	}
}

func TestCopyIsEqual(t *testing.T) {
	for _, m := range []api.Memory{fresh(), filled(), {}, {Cells: []api.Cell{}, Lines: []api.Line{}}, {Cells: numbersFrom(3, 600), Lines: make([]api.Line, 7)}} {
		if got := memory.Copy(m); !equal(got, m) || !memory.Same(got, m) {
			t.Errorf("Copy(%v) = %v", m, got)
		}
	}
}

func TestCopyIsIndependent(t *testing.T) {
	for i, change := range changes() {
		m := filled()
		c := memory.Copy(m)
		change(&c)
		if !equal(m, filled()) {
			t.Errorf("change %d of the copy changes the memory", i)
		}
		c = memory.Copy(m)
		change(&m)
		if !equal(c, filled()) {
			t.Errorf("change %d of the memory changes the copy", i)
		}
	}
}

// P4.2

func TestPeekAtEachAddress(t *testing.T) {
	m := filled()
	for addr := range 512 {
		want := api.Cell{Tag: uint8(addr % 3), Val: uint16(1000 + addr)}
		if got, errno := memory.Peek(m, addr); got != want || errno != api.OK {
			t.Errorf("Peek(%d) = %v, %d", addr, got, errno)
		}
	}
}

func TestPokeAtEachAddress(t *testing.T) {
	for addr := range 512 {
		for _, c := range []api.Cell{{}, num(65535), ptr(uint16(addr)), handle(40503)} {
			want := filled()
			want.Cells[addr] = c
			got, errno := memory.Poke(filled(), addr, c)
			if errno != api.OK || !equal(got, want) || !memory.Valid(got) {
				t.Errorf("Poke(%d, %v): %d", addr, c, errno)
			}
			if back, errno := memory.Peek(got, addr); back != c || errno != api.OK {
				t.Errorf("Peek behind Poke(%d, %v) = %v, %d", addr, c, back, errno)
			}
		}
	}
}

func TestPeekAndPokeDoNotLookAtLines(t *testing.T) {
	for _, dirty := range []bool{false, true} {
		m := fresh()
		m.Cells[17] = num(5)
		m.Lines[0] = api.Line{Tag: 4, Dirty: dirty, Cells: []api.Cell{num(1), ptr(2), handle(3), num(4)}}
		if got, errno := memory.Peek(m, 17); got != num(5) || errno != api.OK {
			t.Errorf("Peek = %v, %d", got, errno)
		}
		want := memory.Copy(m)
		want.Cells[17] = num(9)
		if got, errno := memory.Poke(m, 17, num(9)); errno != api.OK || !equal(got, want) {
			t.Errorf("Poke = %v, %d", got, errno)
		}
	}
}

func TestAddressesOutsideAreErrRange(t *testing.T) {
	m := filled()
	for _, addr := range []int{
		-1, -2, -511, -512, 512, 513, 1024, 1 << 16, 1<<16 + 3, -1 << 16, 1 << 32, 1<<32 + 3, math.MaxInt, math.MinInt, math.MinInt + 1,
	} {
		if got, errno := memory.Peek(m, addr); got != (api.Cell{}) || errno != api.ErrRange {
			t.Errorf("Peek(%d) = %v, %d", addr, got, errno)
		}
		for _, c := range []api.Cell{{}, num(1), ptr(2), handle(3)} {
			if got, errno := memory.Poke(m, addr, c); !isZero(got) || errno != api.ErrRange {
				t.Errorf("Poke(%d, %v) = %v, %d", addr, c, got, errno)
			}
		}
	}
}

func TestPokeOfACellThatIsNotValidIsErrArg(t *testing.T) {
	m := filled()
	for tag := 3; tag <= 255; tag++ {
		for _, addr := range []int{0, 16, 511, -1, 512, math.MaxInt, math.MinInt} {
			for _, val := range []uint16{0, 1, 65535} {
				got, errno := memory.Poke(m, addr, api.Cell{Tag: uint8(tag), Val: val})
				if !isZero(got) || errno != api.ErrArg {
					t.Errorf("Poke(%d, tag %d) = %v, %d", addr, tag, got, errno)
				}
			}
		}
	}
}

// R1

func TestMemoriesThatAreNotValidDoNoHarm(t *testing.T) {
	memories := []api.Memory{{}, fresh(), filled()}
	for _, n := range []int{0, 1, 3, 511, 513, 700} {
		memories = append(memories,
			api.Memory{Cells: make([]api.Cell, n)},
			api.Memory{Cells: slices.Repeat([]api.Cell{{Tag: 9, Val: 7}}, n), Lines: fresh().Lines},
			api.Memory{Cells: fresh().Cells, Lines: make([]api.Line, n)})
	}
	for _, tag := range []int{math.MinInt, -5, -1, 0, 1, 128, math.MaxInt} {
		line := api.Line{Tag: tag, Dirty: true, Cells: slices.Repeat([]api.Cell{{Tag: 77}}, 5)}
		memories = append(memories, api.Memory{Cells: fresh().Cells, Lines: slices.Repeat([]api.Line{line}, 4)})
	}
	for _, m := range memories {
		memory.Valid(m)
		if !memory.Same(memory.Copy(m), m) {
			t.Errorf("Copy of %d cells and %d lines", len(m.Cells), len(m.Lines))
		}
		for _, other := range memories {
			if memory.Same(m, other) != equal(m, other) {
				t.Errorf("Same of %v and %v", m, other)
			}
		}
		for _, addr := range []int{math.MinInt, -1, 0, 1, 2, 3, 510, 511, 512, 513, 699, 700, math.MaxInt} {
			_, errno := memory.Peek(m, addr)
			poked, pokeErrno := memory.Poke(m, addr, ptr(1))
			if errno != pokeErrno || errno != api.OK && !isZero(poked) {
				t.Errorf("%d of %d cells: %d and %d", addr, len(m.Cells), errno, pokeErrno)
			}
			if (addr < 0 || addr >= 512) && errno != api.ErrRange {
				t.Errorf("%d of %d cells: %d", addr, len(m.Cells), errno)
			}
		}
	}
}

// R2

func TestArgumentsAreNotChanged(t *testing.T) {
	p := api.Program{Code: []api.Instr{{Op: 23}}, Sizes: []int{3, 2}, Data: [][]uint16{{7, 8}, {9}}}
	l := api.Layout{Bases: []int{9, 1}, Key: 5}
	memory.Load(p, l)
	if !slices.Equal(p.Sizes, []int{3, 2}) || !slices.Equal(p.Data[0], []uint16{7, 8}) || !slices.Equal(p.Data[1], []uint16{9}) ||
		!slices.Equal(p.Code, []api.Instr{{Op: 23}}) || !slices.Equal(l.Bases, []int{9, 1}) || l.Key != 5 {
		t.Error("Load", p, l)
	}
	m, other := filled(), filled()
	memory.Valid(m)
	memory.Same(m, other)
	memory.Copy(m)
	memory.Peek(m, 17)
	memory.Poke(m, 17, num(1))
	memory.Poke(m, -1, num(1))
	memory.Poke(m, 17, api.Cell{Tag: 3})
	if !equal(m, filled()) || !equal(other, filled()) {
		t.Error("a memory has changed")
	}
}

// spoil overwrites everything that a memory reaches, what lies behind the ends
// of its slices included.
func spoil(m api.Memory) {
	spoilCells(m.Cells)
	for _, line := range m.Lines {
		spoilCells(line.Cells)
	}
	lines := m.Lines[:cap(m.Lines)]
	for i := range lines {
		lines[i] = api.Line{Tag: 99, Dirty: true}
	}
}

func spoilCells(cells []api.Cell) {
	cells = cells[:cap(cells)]
	for i := range cells {
		cells[i] = api.Cell{Tag: 99, Val: 99}
	}
}

func TestResultsAreNewMemory(t *testing.T) {
	p := api.Program{Sizes: []int{3, 2}, Data: [][]uint16{{7, 8}, {9}}}
	l := api.Layout{Bases: []int{9, 1}}
	first, _ := memory.Load(p, l)
	spoil(first)
	want := fresh()
	want.Cells[9], want.Cells[10], want.Cells[1] = num(7), num(8), num(9)
	if again, errno := memory.Load(p, l); errno != api.OK || !equal(again, want) {
		t.Error("Load", errno)
	}
	m := filled()
	spoil(memory.Copy(m))
	if !equal(m, filled()) {
		t.Error("Copy shares memory with its argument")
	}
	poked, _ := memory.Poke(m, 17, num(1))
	spoil(poked)
	if !equal(m, filled()) {
		t.Error("Poke shares memory with its argument")
	}
}

// An argument may use one array several times; a result must not.
func TestSlicesOfAResultAreIndependent(t *testing.T) {
	for i := range 4 {
		shared := numbersFrom(0, 512)
		m := api.Memory{Cells: shared, Lines: make([]api.Line, 4)}
		for k := range m.Lines {
			m.Lines[k] = api.Line{Tag: 4 + k, Cells: shared[4*k : 4*k+4]}
		}
		poked, _ := memory.Poke(m, 300, num(300))
		for _, result := range []api.Memory{memory.Copy(m), poked} {
			spoilCells(result.Lines[i].Cells)
			result.Lines[i].Cells = m.Lines[i].Cells
			if !equal(result, m) {
				t.Errorf("line %d shares memory with another one, or with the cells", i)
			}
		}
	}
}
