package program_test

import (
	"math"
	"reflect"
	"slices"
	"testing"

	"redundancy/api"
	"redundancy/layout"
	"redundancy/program"
)

// number returns the i-th of a row of numbers that look like none.
func number(i int) int { return (i*40503 + 7919) % 65536 }

// words returns n words that differ.
func words(n int) []uint16 {
	list := make([]uint16, n)
	for i := range list {
		list[i] = uint16(number(i))
	}
	return list
}

// nops returns n instructions that do nothing.
func nops(n int) []api.Instr { return make([]api.Instr, n) }

// greatest returns, for each operation from 0 to 24, the instruction with the
// greatest fields. It is written out here, so that the package is not checked
// against what it calls.
func greatest() []api.Instr {
	list := []api.Instr{{Op: 0}, {Op: 1, A: 7, Imm: 65535}, {Op: 2, A: 7, B: 7}}
	for op := 3; op <= 14; op++ {
		list = append(list, api.Instr{Op: op, A: 7, B: 7, C: 7})
	}
	return append(list,
		api.Instr{Op: 15, A: 7, Imm: 3}, api.Instr{Op: 16, A: 7, B: 7, Imm: 65535}, api.Instr{Op: 17, A: 7, B: 7, Imm: 65535},
		api.Instr{Op: 18, Imm: 63}, api.Instr{Op: 19, A: 7, Imm: 63}, api.Instr{Op: 20, A: 7, Imm: 63}, api.Instr{Op: 21, A: 7, Imm: 63},
		api.Instr{Op: 22, A: 7}, api.Instr{Op: 23, Imm: 15}, api.Instr{Op: 24})
}

// spoiled returns instructions that are not valid.
func spoiled() []api.Instr {
	list := []api.Instr{
		{Op: -1}, {Op: 25}, {Op: 256}, {Op: math.MinInt}, {Op: math.MaxInt}, {A: 1}, {Imm: 1},
		{Op: 1, A: -1}, {Op: 1, Imm: -1}, {Op: 1, Imm: math.MinInt}, {Op: 2, C: 1}, {Op: 23, A: 1}, {Op: 24, B: 1},
		{Op: 18, Imm: -1}, {Op: 19, Imm: math.MinInt}, {Op: 15, Imm: -1},
	}
	for _, i := range greatest() {
		a, b, c, imm := i, i, i, i
		a.A++
		b.B++
		c.C++
		imm.Imm++
		list = append(list, a, b, c, imm)
	}
	return list
}

// small returns a program with two regions and three instructions.
func small() api.Program {
	return api.Program{
		Sizes: []int{2, 1},
		Data:  [][]uint16{{7, 258}, nil},
		Code:  []api.Instr{{Op: api.OpLea, A: 1, Imm: 1}, {Op: api.OpJz, A: 2, Imm: 2}, {Op: api.OpLI, A: 3, Imm: 772}},
	}
}

// full returns a program that has as much of everything as is permitted.
func full() api.Program {
	p := api.Program{Sizes: []int{32, 32, 32, 32}, Code: greatest()}
	for k := range 4 {
		p.Data = append(p.Data, words(32-k))
	}
	for len(p.Code) < 64 {
		p.Code = append(p.Code, api.Instr{Op: api.OpSt, A: len(p.Code) % 8, B: 3, Imm: number(len(p.Code))})
	}
	return p
}

// withCode returns a program with one region and some code.
func withCode(code ...api.Instr) api.Program {
	return api.Program{Sizes: []int{1}, Data: [][]uint16{nil}, Code: code}
}

// accepted returns programs that Check accepts.
func accepted() map[string]api.Program {
	return map[string]api.Program{
		"small":                  small(),
		"full":                   full(),
		"the least":              withCode(api.Instr{}),
		"a jump to itself":       withCode(api.Instr{Op: api.OpJmp}),
		"an empty list":          {Sizes: []int{1}, Data: [][]uint16{{}}, Code: nops(1)},
		"a full region":          {Sizes: []int{32}, Data: [][]uint16{words(32)}, Code: nops(1)},
		"full regions":           {Sizes: []int{1, 32, 3, 2}, Data: [][]uint16{words(1), words(32), words(3), words(2)}, Code: nops(2)},
		"a full last region":     {Sizes: []int{4, 3}, Data: [][]uint16{nil, {65535, 0, 1}}, Code: nops(3)},
		"as many instructions":   withCode(nops(64)...),
		"zeros as words of data": {Sizes: []int{3}, Data: [][]uint16{{0, 0}}, Code: nops(1)},
	}
}

// equal says whether two programs are, with nil as an empty slice.
func equal(a, b api.Program) bool {
	return slices.Equal(a.Code, b.Code) && slices.Equal(a.Sizes, b.Sizes) && slices.EqualFunc(a.Data, b.Data, slices.Equal[[]uint16])
}

func isZero(p api.Program) bool { return len(p.Code)+len(p.Sizes)+len(p.Data) == 0 }

// refusal is a program that Check does not accept, and why.
type refusal struct {
	name  string
	p     api.Program
	errno api.Errno
}

// refused returns programs of all kinds that Check does not accept, the first
// error in front of others that each of them has too.
func refused() []refusal {
	wrong, nowhere, noRegion := api.Instr{Op: 25}, api.Instr{Op: api.OpJmp, Imm: 9}, api.Instr{Op: api.OpLea, Imm: 2}
	return []refusal{
		{"nothing", api.Program{}, api.ErrArg},
		{"no regions", api.Program{Code: nops(1)}, api.ErrArg},
		{"no regions, empty slices", api.Program{Sizes: []int{}, Data: [][]uint16{}, Code: nops(1)}, api.ErrArg},
		{"no regions, but data", api.Program{Data: [][]uint16{nil}, Code: nops(1)}, api.ErrArg},
		{"five regions", api.Program{Sizes: []int{1, 1, 1, 1, 1}, Data: make([][]uint16, 5), Code: nops(1)}, api.ErrArg},
		{"an empty region", api.Program{Sizes: []int{0}, Data: [][]uint16{nil}, Code: nops(1)}, api.ErrArg},
		{"an empty last region", api.Program{Sizes: []int{1, 0}, Data: [][]uint16{nil, nil}, Code: nops(1)}, api.ErrArg},
		{"a negative size", api.Program{Sizes: []int{-1, 2}, Data: [][]uint16{nil, nil}, Code: nops(1)}, api.ErrArg},
		{"the least size", api.Program{Sizes: []int{math.MinInt}, Data: [][]uint16{nil}, Code: nops(1)}, api.ErrArg},
		{"a size too large", api.Program{Sizes: []int{33}, Data: [][]uint16{nil}, Code: nops(1)}, api.ErrArg},
		{"the greatest size", api.Program{Sizes: []int{math.MaxInt}, Data: [][]uint16{nil}, Code: nops(1)}, api.ErrArg},
		{"no data", api.Program{Sizes: []int{1}, Code: nops(1)}, api.ErrArg},
		{"a list too few", api.Program{Sizes: []int{1, 2}, Data: [][]uint16{nil}, Code: nops(1)}, api.ErrArg},
		{"a list too many", api.Program{Sizes: []int{1, 2}, Data: [][]uint16{nil, nil, nil}, Code: nops(1)}, api.ErrArg},
		{"a word too many", api.Program{Sizes: []int{2}, Data: [][]uint16{{1, 2, 3}}, Code: nops(1)}, api.ErrArg},
		{"a word too many in the first region", api.Program{Sizes: []int{1, 3}, Data: [][]uint16{{1, 2}, nil}, Code: nops(1)}, api.ErrArg},
		{"a word too many in the last region", api.Program{Sizes: []int{3, 1}, Data: [][]uint16{nil, {1, 2}}, Code: nops(1)}, api.ErrArg},
		{"a word too many in the longest region", api.Program{Sizes: []int{32}, Data: [][]uint16{words(33)}, Code: nops(1)}, api.ErrArg},
		{"lists exchanged", api.Program{Sizes: []int{1, 2}, Data: [][]uint16{{1, 2}, {1}}, Code: nops(1)}, api.ErrArg},
		{"sizes before the code", api.Program{Sizes: []int{0}, Data: [][]uint16{nil}}, api.ErrArg},
		{"data before the code", api.Program{Sizes: []int{1}, Data: [][]uint16{{1, 2}}, Code: nops(65)}, api.ErrArg},
		{"lists before the instructions", api.Program{Sizes: []int{1}, Code: []api.Instr{wrong}}, api.ErrArg},
		{"sizes before the targets", api.Program{Sizes: []int{33}, Data: [][]uint16{nil}, Code: []api.Instr{nowhere, noRegion}}, api.ErrArg},

		{"no code", withCode(), api.ErrLimit},
		{"no code, an empty slice", api.Program{Sizes: []int{1}, Data: [][]uint16{nil}, Code: []api.Instr{}}, api.ErrLimit},
		{"an instruction too many", withCode(nops(65)...), api.ErrLimit},
		{"many instructions too many", withCode(nops(1000)...), api.ErrLimit},
		{"too much code before the instructions", withCode(slices.Repeat([]api.Instr{wrong}, 65)...), api.ErrLimit},
		{"too much code before the targets", withCode(slices.Repeat([]api.Instr{noRegion}, 65)...), api.ErrLimit},

		{"one that is not valid", withCode(wrong), api.ErrForm},
		{"the last one is not valid", withCode(api.Instr{}, api.Instr{}, wrong), api.ErrForm},
		{"a jump before one that is not valid", withCode(nowhere, api.Instr{}, wrong), api.ErrForm},
		{"a LEA before one that is not valid", withCode(noRegion, wrong), api.ErrForm},
		{"one that is not valid before a jump", withCode(wrong, nowhere), api.ErrForm},
		{"a jump to further than is permitted", withCode(api.Instr{Op: api.OpJmp, Imm: 64}), api.ErrForm},
		{"a LEA of more than is permitted", withCode(api.Instr{Op: api.OpLea, Imm: 4}), api.ErrForm},

		{"a jump behind the code", withCode(api.Instr{Op: api.OpJmp, Imm: 1}), api.ErrRange},
		{"a JZ behind the code", withCode(api.Instr{}, api.Instr{Op: api.OpJz, Imm: 2}), api.ErrRange},
		{"a JNZ behind the code", withCode(api.Instr{Op: api.OpJnz, Imm: 2}, api.Instr{}), api.ErrRange},
		{"a JAL behind the code", withCode(api.Instr{}, api.Instr{Op: api.OpJal, Imm: 63}, api.Instr{}), api.ErrRange},
		{"a LEA of no region", withCode(api.Instr{Op: api.OpLea, Imm: 1}), api.ErrRange},
		{"a LEA of no region behind much code", withCode(append(nops(63), api.Instr{Op: api.OpLea, Imm: 3})...), api.ErrRange},
		{"both", withCode(nowhere, noRegion), api.ErrRange},
		{"what is never reached", withCode(api.Instr{Op: api.OpRti}, nowhere), api.ErrRange},
	}
}

// P8.1

func TestCheckAccepts(t *testing.T) {
	for name, p := range accepted() {
		if errno := program.Check(p); errno != api.OK {
			t.Errorf("%s: %d", name, errno)
		}
	}
}

func TestCheckRefuses(t *testing.T) {
	for _, c := range refused() {
		if errno := program.Check(c.p); errno != c.errno {
			t.Errorf("%s: %d, want %d", c.name, errno, c.errno)
		}
	}
}

func TestCheckNumberOfRegionsAndTheirSizes(t *testing.T) {
	for regions := range 9 {
		for size := -2; size <= 70; size++ {
			p := api.Program{Sizes: slices.Repeat([]int{size}, regions), Data: make([][]uint16, regions), Code: nops(1)}
			want := api.ErrArg
			if regions >= 1 && regions <= 4 && size >= 1 && size <= 32 {
				want = api.OK
			}
			if errno := program.Check(p); errno != want {
				t.Errorf("%d regions of %d words: %d", regions, size, errno)
			}
		}
	}
}

func TestCheckNumberOfWords(t *testing.T) {
	for size := 1; size <= 32; size++ {
		for n := range 70 {
			want := api.OK
			if n > size {
				want = api.ErrArg
			}
			for k := range 4 {
				p := api.Program{Sizes: []int{32, 32, 32, 32}, Data: make([][]uint16, 4), Code: nops(1)}
				p.Sizes[k], p.Data[k] = size, words(n)
				if errno := program.Check(p); errno != want {
					t.Errorf("%d words in region %d of %d: %d", n, k, size, errno)
				}
			}
		}
	}
}

func TestCheckNumberOfInstructions(t *testing.T) {
	for n := range 300 {
		want := api.ErrLimit
		if n >= 1 && n <= 64 {
			want = api.OK
		}
		if errno := program.Check(withCode(nops(n)...)); errno != want {
			t.Errorf("%d instructions: %d", n, errno)
		}
	}
}

func TestCheckEachInstructionEverywhere(t *testing.T) {
	for at := range 64 {
		p := full()
		for _, i := range spoiled() {
			p.Code[at] = i
			if errno := program.Check(p); errno != api.ErrForm {
				t.Errorf("%+v at %d: %d", i, at, errno)
			}
		}
		for _, i := range greatest() {
			p.Code[at] = i
			if errno := program.Check(p); errno != api.OK {
				t.Errorf("%+v at %d: %d", i, at, errno)
			}
		}
	}
}

func TestCheckTargetsOfJumps(t *testing.T) {
	for _, op := range []int{18, 19, 20, 21} { // JMP, JZ, JNZ, JAL
		for n := 1; n <= 64; n++ {
			for imm := range 70 {
				want := api.ErrForm
				if imm < n {
					want = api.OK
				} else if imm < 64 {
					want = api.ErrRange
				}
				for _, at := range []int{0, n / 2, n - 1} {
					code := nops(n)
					code[at] = api.Instr{Op: op, Imm: imm}
					if errno := program.Check(withCode(code...)); errno != want {
						t.Errorf("%d instructions, operation %d to %d at %d: %d", n, op, imm, at, errno)
					}
				}
			}
		}
	}
}

func TestCheckRegionsOfLea(t *testing.T) {
	for regions := 1; regions <= 4; regions++ {
		for imm := range 10 {
			want := api.ErrForm
			if imm < regions {
				want = api.OK
			} else if imm < 4 {
				want = api.ErrRange
			}
			for _, n := range []int{1, 2, 3, 4, 5, 64} {
				for _, at := range []int{0, n - 1} {
					p := api.Program{Sizes: slices.Repeat([]int{9}, regions), Data: make([][]uint16, regions), Code: nops(n)}
					p.Code[at] = api.Instr{Op: api.OpLea, A: 7, Imm: imm}
					if errno := program.Check(p); errno != want {
						t.Errorf("%d regions, LEA of %d at %d of %d: %d", regions, imm, at, n, errno)
					}
				}
			}
		}
	}
}

// TestCheckLooksAtNoOtherImm has a single instruction and a single region, so
// that every Imm above 0 would be too great for a jump and for LEA.
func TestCheckLooksAtNoOtherImm(t *testing.T) {
	for _, i := range greatest() {
		want := api.OK
		if i.Op == api.OpLea || i.Op >= api.OpJmp && i.Op <= api.OpJal {
			want = api.ErrRange
		}
		if errno := program.Check(withCode(i)); errno != want {
			t.Errorf("%+v: %d", i, errno)
		}
	}
}

// P8.2

// firstThreads returns the threads of a machine at the beginning.
func firstThreads() []api.Thread {
	threads := make([]api.Thread, 4)
	for k := range threads {
		threads[k] = api.Thread{State: 0, Regs: make([]api.Cell, 8), Handler: -1, Saved: -1}
	}
	threads[0].State = 1
	return threads
}

// firstMachine returns the machine at the beginning of a program.
func firstMachine(p api.Program, l api.Layout) api.Machine {
	m := api.Machine{Layout: l, Threads: firstThreads()}
	m.Memory.Cells = make([]api.Cell, 512)
	for k, list := range p.Data {
		for i, v := range list {
			m.Memory.Cells[l.Bases[k]+i].Val = v
		}
	}
	m.Memory.Lines = []api.Line{{Tag: -1}, {Tag: -1}, {Tag: -1}, {Tag: -1}}
	return m
}

// sameMachine says whether two machines are equal, with nil as an empty slice.
func sameMachine(a, b api.Machine) bool {
	return slices.Equal(a.Layout.Bases, b.Layout.Bases) && a.Layout.Key == b.Layout.Key &&
		slices.Equal(a.Memory.Cells, b.Memory.Cells) && slices.EqualFunc(a.Memory.Lines, b.Memory.Lines, sameLine) &&
		slices.EqualFunc(a.Threads, b.Threads, sameThread)
}

func sameLine(a, b api.Line) bool {
	return a.Tag == b.Tag && a.Dirty == b.Dirty && slices.Equal(a.Cells, b.Cells)
}

func sameThread(a, b api.Thread) bool {
	if !slices.Equal(a.Regs, b.Regs) {
		return false
	}
	a.Regs, b.Regs = nil, nil
	return reflect.DeepEqual(a, b)
}

func isZeroMachine(m api.Machine) bool { return sameMachine(m, api.Machine{}) }

func TestStart(t *testing.T) {
	for _, c := range []struct {
		name string
		p    api.Program
		l    api.Layout
	}{
		{"small", small(), api.Layout{Bases: []int{9, 4}, Key: 3}},
		{"small, the other way round", small(), api.Layout{Bases: []int{0, 511}, Key: 65535}},
		{"full", full(), api.Layout{Bases: []int{480, 0, 300, 40}, Key: 1}},
		{"the least", withCode(api.Instr{}), api.Layout{Bases: []int{0}}},
		{"the last address", api.Program{Sizes: []int{1}, Data: [][]uint16{{7}}, Code: nops(1)}, api.Layout{Bases: []int{511}}},
		{"next to each other", small(), api.Layout{Bases: []int{1, 4}}},
	} {
		m, errno := program.Start(c.p, c.l)
		if errno != api.OK || !sameMachine(m, firstMachine(c.p, c.l)) {
			t.Errorf("%s: %v, %d", c.name, m, errno)
		}
	}
}

func TestStartInManyLayouts(t *testing.T) {
	for name, p := range accepted() {
		for seed := range 200 {
			l, _ := layout.Make(p.Sizes, seed*1000003)
			m, errno := program.Start(p, l)
			if errno != api.OK || !sameMachine(m, firstMachine(p, l)) {
				t.Fatalf("%s, seed %d: %v, %d", name, seed, m, errno)
			}
		}
	}
}

func TestStartOfWhatCheckRefuses(t *testing.T) {
	for _, c := range refused() {
		for _, l := range []api.Layout{{}, {Bases: []int{1}}, {Bases: []int{1, 40}}, {Bases: []int{1, 100, 200, 300}, Key: 7}} {
			if m, errno := program.Start(c.p, l); errno != c.errno || !isZeroMachine(m) {
				t.Errorf("%s, bases %v: %v, %d, want %d", c.name, l.Bases, m, errno, c.errno)
			}
		}
	}
}

func TestStartInALayoutThatIsNotValid(t *testing.T) {
	for _, bases := range [][]int{
		nil, {}, {9}, {9, 4, 20}, {-1, 9}, {9, -1}, {511, 9}, {9, 512}, {1, 3}, {3, 2}, {5, 5}, {5, 6},
		{math.MinInt, 9}, {9, math.MinInt}, {math.MaxInt, 9}, {9, math.MaxInt},
	} {
		if m, errno := program.Start(small(), api.Layout{Bases: bases, Key: 3}); errno != api.ErrArg || !isZeroMachine(m) {
			t.Errorf("bases %v: %v, %d", bases, m, errno)
		}
	}
}

// P8.3: Encode

// encodings are programs and their bytes.
var encodings = []struct {
	name string
	p    api.Program
	b    string
}{
	{"the example", withCode(api.Instr{}), "\x01\x01\x00\x01\x00\x00\x00\x00\x00\x00"},
	{"small", small(), "\x02\x02\x02\x00\x07\x01\x02\x01\x00\x03\x0f\x01\x00\x00\x00\x01\x13\x02\x00\x00\x00\x02\x01\x03\x00\x00\x03\x04"},
	{"regions with data", api.Program{Sizes: []int{3, 32, 1}, Data: [][]uint16{{255, 256}, {65535}, {32768}}, Code: []api.Instr{{Op: api.OpRti}}},
		"\x03\x03\x02\x00\xff\x01\x00\x20\x01\xff\xff\x01\x01\x80\x00\x01\x18\x00\x00\x00\x00\x00"},
	{"a region without data in front", api.Program{Sizes: []int{4, 2}, Data: [][]uint16{nil, {5}}, Code: []api.Instr{{Op: api.OpAdd, A: 1, B: 2, C: 3}, {Op: api.OpSys, Imm: 13}}},
		"\x02\x04\x00\x02\x01\x00\x05\x02\x03\x01\x02\x03\x00\x00\x17\x00\x00\x00\x00\x0d"},
}

func TestEncodeExamples(t *testing.T) {
	for _, c := range encodings {
		if b, errno := program.Encode(c.p); errno != api.OK || string(b) != c.b {
			t.Errorf("%s: %x, %d", c.name, b, errno)
		}
	}
}

func TestEncodeOfAsMuchAsIsPermitted(t *testing.T) {
	p := full()
	want := []byte{4}
	for _, list := range p.Data {
		want = append(want, 32, byte(len(list)))
		for _, v := range list {
			want = append(want, byte(v/256), byte(v%256))
		}
	}
	want = append(want, 64)
	for _, i := range p.Code {
		want = append(want, byte(i.Op), byte(i.A), byte(i.B), byte(i.C), byte(i.Imm/256), byte(i.Imm%256))
	}
	if b, errno := program.Encode(p); errno != api.OK || !slices.Equal(b, want) {
		t.Errorf("%x, %d", b, errno)
	}
}

func TestEncodeOfWhatCheckRefuses(t *testing.T) {
	for _, c := range refused() {
		if b, errno := program.Encode(c.p); errno != c.errno || len(b) != 0 {
			t.Errorf("%s: %x, %d, want %d", c.name, b, errno, c.errno)
		}
	}
}

// P8.3: Decode

func TestDecodeExamples(t *testing.T) {
	for _, c := range encodings {
		if p, errno := program.Decode([]byte(c.b)); errno != api.OK || !equal(p, c.p) {
			t.Errorf("%s: %v, %d", c.name, p, errno)
		}
	}
}

func TestDecodeIsTheInverseOfEncode(t *testing.T) {
	for name, p := range accepted() {
		b, _ := program.Encode(p)
		if got, errno := program.Decode(b); errno != api.OK || !equal(got, p) {
			t.Errorf("%s: %v, %d", name, got, errno)
		}
	}
}

func TestDecodeOfBytesThatEndTooEarly(t *testing.T) {
	for name, p := range accepted() {
		b, _ := program.Encode(p)
		for n := range b {
			if got, errno := program.Decode(b[:n]); errno != api.ErrShort || !isZero(got) {
				t.Errorf("%s, %d bytes: %v, %d", name, n, got, errno)
			}
		}
	}
}

func TestDecodeOfBytesThatAreLeft(t *testing.T) {
	for name, p := range accepted() {
		b, _ := program.Encode(p)
		for range 20 {
			b = append(b, 0)
			if got, errno := program.Decode(b); errno != api.ErrForm || !isZero(got) {
				t.Errorf("%s, %d bytes: %v, %d", name, len(b), got, errno)
			}
		}
	}
}

// TestDecodeNamesTheFirstError has bytes with one error after the other; most of
// them have several.
func TestDecodeNamesTheFirstError(t *testing.T) {
	const nop, wrong, nowhere, noRegion = "\x00\x00\x00\x00\x00\x00", "\x19\x00\x00\x00\x00\x00", "\x12\x00\x00\x00\x00\x09", "\x0f\x00\x00\x00\x00\x01"
	for b, want := range map[string]api.Errno{
		"":                                 api.ErrShort,
		"\x00":                             api.ErrShort,
		"\x01":                             api.ErrShort,
		"\xff":                             api.ErrShort,
		"\x01\x00":                         api.ErrShort, // no words of data are not there
		"\x01\x00\x00":                     api.ErrShort, // the number of instructions is not there
		"\x01\x01\x02\x00\x07\x00":         api.ErrShort, // half a word
		"\x01\x01\xff\x00\x07\x00":         api.ErrShort, // too many words
		"\x05\x01\x00\x01\x00":             api.ErrShort, // too many regions
		"\x00\x01":                         api.ErrShort, // no regions
		"\x00\x01\x19":                     api.ErrShort,
		"\x01\x01\x00\x02" + wrong:         api.ErrShort,
		"\x01\x01\x00\x41" + nop:           api.ErrShort, // too many instructions
		"\x01\x01\x00\x02" + nowhere + nop: api.ErrRange,

		"\x01\x01\x00\x01" + nop + "\x00":           api.ErrForm,
		"\x01\x01\x00\x01" + nop + nop:              api.ErrForm,
		"\x00\x00\x00":                              api.ErrForm, // no regions, no instructions
		"\x00\x01" + nop + "\x00":                   api.ErrForm,
		"\x01\x01\x00\x00\x00":                      api.ErrForm,
		"\x01\x01\x00\x01" + nowhere + "\x00":       api.ErrForm,
		"\x01\x01\x00\x01" + wrong:                  api.ErrForm,
		"\x01\x01\x00\x02" + nop + wrong:            api.ErrForm,
		"\x01\x01\x00\x02" + nowhere + wrong:        api.ErrForm,
		"\x01\x01\x00\x02" + wrong + nop + "\x00":   api.ErrForm,
		"\x00\x01" + wrong:                          api.ErrForm, // no regions
		"\x01\x00\x00\x01" + wrong:                  api.ErrForm, // an empty region
		"\x01\x01\x02\x00\x00\x00\x00\x01" + wrong:  api.ErrForm, // too much data
		"\x01\x01\x00\x41" + times(64, nop) + wrong: api.ErrForm, // too many instructions
		"\x01\x01\x00\x01\x00\x01\x00\x00\x00\x00":  api.ErrForm,
		"\x01\x01\x00\x01\x00\x00\x00\x00\x00\x01":  api.ErrForm,
		"\x01\x01\x00\x01\x01\x08\x00\x00\x00\x00":  api.ErrForm,
		"\x01\x01\x00\x01\x12\x00\x00\x00\x00\x40":  api.ErrForm, // a jump to 64
		"\x01\x01\x00\x01\x0f\x00\x00\x00\x00\x04":  api.ErrForm, // LEA of region 4

		"\x00\x00":                                   api.ErrArg,
		"\x00\x01" + nop:                             api.ErrArg,
		"\x00\x01" + nowhere:                         api.ErrArg,
		"\x01\x00\x00\x01" + nop:                     api.ErrArg,
		"\x01\x21\x00\x01" + nop:                     api.ErrArg,
		"\x01\xff\x00\x01" + nop:                     api.ErrArg,
		"\x01\x00\x00\x00":                           api.ErrArg,
		"\x01\x01\x02\x00\x00\x00\x00\x01" + nop:     api.ErrArg,
		"\x02\x02\x00\x01\x02\x00\x00\x00\x00\x00":   api.ErrArg,
		"\x05" + times(5, "\x01\x00") + "\x01" + nop: api.ErrArg,
		"\xff" + times(255, "\x01\x00") + "\x00":     api.ErrArg,
		"\x01\xff\xff" + times(510, "\x00") + "\x00": api.ErrArg,

		"\x01\x01\x00\x00":                           api.ErrLimit,
		"\x01\x01\x00\x41" + times(65, nop):          api.ErrLimit,
		"\x01\x01\x00\xff" + times(255, nop):         api.ErrLimit,
		"\x01\x01\x00\x41" + times(65, nowhere):      api.ErrLimit,
		"\x01\x01\x00\x41" + times(65, noRegion):     api.ErrLimit,
		"\x01\x01\x00\x01" + nowhere:                 api.ErrRange,
		"\x01\x01\x00\x01" + noRegion:                api.ErrRange,
		"\x01\x01\x00\x09" + nowhere + times(8, nop): api.ErrRange,
	} {
		if p, errno := program.Decode([]byte(b)); errno != want || !isZero(p) {
			t.Errorf("%x: %v, %d, want %d", b, p, errno, want)
		}
	}
}

func times(n int, s string) string {
	all := ""
	for range n {
		all += s
	}
	return all
}

// TestDecodeTakesOnlyWhatEncodeWrites changes each byte of some encodings to each
// other value: what is a program then has these bytes.
func TestDecodeTakesOnlyWhatEncodeWrites(t *testing.T) {
	for _, c := range encodings {
		for at := range c.b {
			for v := range 256 {
				changed := []byte(c.b)
				changed[at] = byte(v)
				p, errno := program.Decode(changed)
				if errno != api.OK {
					if !isZero(p) {
						t.Errorf("%x: %v, %d", changed, p, errno)
					}
					continue
				}
				if again, errno := program.Encode(p); errno != api.OK || !slices.Equal(again, changed) {
					t.Errorf("%x is %v, which is %x, %d", changed, p, again, errno)
				}
			}
		}
	}
}

// P8.4: Reach

// reachable returns what Reach does, as a text of 0 and 1.
func reachable(p api.Program) string {
	text := ""
	for _, reached := range program.Reach(p) {
		if reached {
			text += "1"
		} else {
			text += "0"
		}
	}
	return text
}

func TestReach(t *testing.T) {
	jmp := func(to int) api.Instr { return api.Instr{Op: api.OpJmp, Imm: to} }
	jz := func(to int) api.Instr { return api.Instr{Op: api.OpJz, A: 1, Imm: to} }
	jnz := func(to int) api.Instr { return api.Instr{Op: api.OpJnz, A: 1, Imm: to} }
	jal := func(to int) api.Instr { return api.Instr{Op: api.OpJal, A: 1, Imm: to} }
	sys := func(call int) api.Instr { return api.Instr{Op: api.OpSys, Imm: call} }
	nop, jr, rti := api.Instr{}, api.Instr{Op: api.OpJr, A: 1}, api.Instr{Op: api.OpRti}
	for _, c := range []struct {
		name string
		code []api.Instr
		want string
	}{
		{"one", []api.Instr{nop}, "1"},
		{"one after the other", []api.Instr{nop, nop, nop}, "111"},
		{"a jump", []api.Instr{jmp(2), nop, nop}, "101"},
		{"a jump to itself", []api.Instr{jmp(0), nop}, "10"},
		{"a jump back", []api.Instr{jmp(2), nop, jmp(1), nop}, "1110"},
		{"a jump to the last one", []api.Instr{jmp(3), nop, nop, nop}, "1001"},
		{"jumps that pass the rest over", []api.Instr{jmp(4), jmp(2), jmp(3), jmp(1), jmp(0)}, "10001"},
		{"a loop without an end", []api.Instr{nop, jmp(0), nop, jmp(2)}, "1100"},
		{"a JAL has no next one", []api.Instr{jal(2), nop, rti}, "101"},
		{"a JZ has two", []api.Instr{jz(3), rti, nop, nop, rti, nop}, "110110"},
		{"a JNZ has two", []api.Instr{jnz(3), rti, nop, nop, rti, nop}, "110110"},
		{"a JZ to the next one", []api.Instr{jz(1), rti, nop}, "110"},
		{"a JZ as the last one", []api.Instr{jmp(2), nop, jz(1)}, "111"},
		{"a JZ to itself", []api.Instr{jz(0), rti, nop}, "110"},
		{"ways that meet", []api.Instr{jz(3), nop, jmp(4), nop, rti, nop}, "111110"},
		{"an RTI has none", []api.Instr{rti, nop}, "10"},
		{"an exit has the next one", []api.Instr{sys(0), nop, rti, nop}, "1110"},
		{"all other calls have the next one", []api.Instr{sys(1), sys(2), sys(3), sys(4), sys(5), sys(6), sys(7), sys(8), sys(9), sys(11), sys(13), sys(14), sys(15), rti, nop}, "111111111111110"},
		{"a JR", []api.Instr{jr, nop}, "11"},
		{"a JR behind a jump", []api.Instr{jmp(2), nop, jr, nop, nop}, "11111"},
		{"a JR as the last one", []api.Instr{jz(3), rti, nop, jr}, "1111"},
		{"a JR that is never reached", []api.Instr{jmp(0), jr, nop}, "100"},
		{"a JR behind an RTI", []api.Instr{rti, jr}, "10"},
		{"a SPAWN", []api.Instr{sys(10), rti, nop, rti, nop}, "11111"},
		{"a SPAWN that is never reached", []api.Instr{rti, sys(10), nop}, "100"},
		{"a SPAWN behind a jump", []api.Instr{jmp(3), nop, nop, sys(10)}, "1111"},
		{"a HANDLER", []api.Instr{sys(12), rti, nop, rti, nop}, "11111"},
		{"a HANDLER that is never reached", []api.Instr{jmp(2), sys(12), jmp(0)}, "101"},
		{"a HANDLER behind a JZ", []api.Instr{jz(2), rti, sys(12), rti, nop}, "11111"},
		{"what is never reached leads nowhere", []api.Instr{rti, jmp(2), nop, nop}, "1000"},
		{"an Imm like that of a SPAWN", []api.Instr{{Op: api.OpLI, Imm: 10}, {Op: api.OpLd, Imm: 12}, rti, nop}, "1110"},
		{"a jump to 10, one to 12", []api.Instr{jz(10), jmp(12), nop, nop, nop, nop, nop, nop, nop, nop, rti, nop, rti, nop}, "11000000001010"},
	} {
		if got := reachable(withCode(c.code...)); got != c.want {
			t.Errorf("%s: %s, want %s", c.name, got, c.want)
		}
	}
}

// wantReach finds out what can be reached by going over the code again and again,
// until nothing is new.
func wantReach(code []api.Instr) []bool {
	reached := make([]bool, len(code))
	reached[0] = true
	for range code {
		for pc, i := range code {
			if !reached[pc] {
				continue
			}
			if i.Op == 22 || i.Op == 23 && (i.Imm == 10 || i.Imm == 12) { // JR, SPAWN, HANDLER
				for k := range reached {
					reached[k] = true
				}
			}
			if i.Op >= 18 && i.Op <= 21 { // JMP, JZ, JNZ, JAL
				reached[i.Imm] = true
			}
			if pc+1 < len(code) && i.Op != 18 && i.Op != 21 && i.Op != 22 && i.Op != 24 {
				reached[pc+1] = true
			}
		}
	}
	return reached
}

// someCode returns n instructions, for each seed others; many of them are
// branches and calls.
func someCode(seed, n int) []api.Instr {
	code := nops(n)
	for k := range code {
		v := number(seed*64+k) / 7
		switch v % 16 {
		case 0, 1, 2, 3:
			code[k] = api.Instr{Op: api.OpJmp, Imm: v / 16 % n}
		case 4, 5:
			code[k] = api.Instr{Op: api.OpJz, Imm: v / 16 % n}
		case 6, 7:
			code[k] = api.Instr{Op: api.OpJnz, A: 3, Imm: v / 16 % n}
		case 8, 9:
			code[k] = api.Instr{Op: api.OpJal, Imm: v / 16 % n}
		case 10, 11, 12:
			code[k] = api.Instr{Op: api.OpRti}
		case 13:
			code[k] = api.Instr{Op: api.OpSys, Imm: v / 16 % 16}
		case 14:
			if v/16%4 == 0 {
				code[k] = api.Instr{Op: api.OpJr, A: 2}
			}
		}
	}
	return code
}

func TestReachOfManyPrograms(t *testing.T) {
	some := 0
	for n := 1; n <= 64; n++ {
		for seed := range 300 {
			code := someCode(seed, n)
			want := wantReach(code)
			if got := program.Reach(withCode(code...)); !slices.Equal(got, want) {
				t.Fatalf("%v: %v, want %v", code, got, want)
			}
			if slices.Contains(want[1:], true) && slices.Contains(want, false) {
				some++
			}
		}
	}
	if some < 5000 {
		t.Errorf("of only %d programs some can be reached and some not", some)
	}
}

func TestReachOfAsMuchAsIsPermitted(t *testing.T) {
	backwards := nops(64)
	backwards[0].Op, backwards[0].Imm = api.OpJmp, 63
	for pc := 63; pc > 1; pc-- {
		backwards[pc] = api.Instr{Op: api.OpJmp, Imm: pc - 1}
	}
	for name, code := range map[string][]api.Instr{"forwards": nops(64), "backwards": backwards, "a JR at the end": append(nops(63), api.Instr{Op: api.OpJr})} {
		if got := reachable(withCode(code...)); got != times(64, "1") {
			t.Errorf("%s: %s", name, got)
		}
	}
}

func TestReachOfWhatCheckRefuses(t *testing.T) {
	for _, c := range refused() {
		if got := program.Reach(c.p); len(got) != 0 {
			t.Errorf("%s: %v", c.name, got)
		}
	}
}

// TestWhatIsNeverReachedDoesNotMatter is a consequence of the chapter: other
// instructions there change nothing of what can be reached.
func TestWhatIsNeverReachedDoesNotMatter(t *testing.T) {
	for seed := range 500 {
		code := someCode(seed, 20)
		want := program.Reach(withCode(code...))
		for pc, reached := range want {
			if reached {
				continue
			}
			for _, i := range []api.Instr{{}, {Op: api.OpJr}, {Op: api.OpSys, Imm: api.SysSpawn}, {Op: api.OpSys, Imm: api.SysHandler}, {Op: api.OpJmp, Imm: 19}} {
				changed := slices.Clone(code)
				changed[pc] = i
				if got := program.Reach(withCode(changed...)); !slices.Equal(got, want) {
					t.Fatalf("%v with %+v at %d: %v", code, i, pc, got)
				}
			}
		}
	}
}

// P8.4: Copy

// running returns a machine in which everything has a value of its own.
func running() api.Machine {
	m := api.Machine{Layout: api.Layout{Bases: []int{9, 4}, Key: 3}, Memory: api.Memory{Cells: make([]api.Cell, 512)}}
	for addr := range m.Memory.Cells {
		m.Memory.Cells[addr] = api.Cell{Tag: uint8(addr % 3), Val: uint16(1000 + addr)}
	}
	m.Memory.Lines = []api.Line{
		{Tag: 4, Dirty: true, Cells: []api.Cell{{Val: 1}, {Tag: 1, Val: 2}, {Tag: 2, Val: 3}, {Val: 4}}},
		{Tag: -1},
		{Tag: 126, Cells: []api.Cell{{Tag: 2, Val: 5}, {Val: 6}, {Val: 7}, {Tag: 1, Val: 8}}},
		{Tag: 127, Dirty: true, Cells: make([]api.Cell, 4)},
	}
	for k := range 4 {
		thread := api.Thread{State: 1 + k, PC: 10 + k, Count: 20 + k, Handler: 30 + k, Saved: 40 + k, Trap: 2 + k, Code: uint16(50 + k)}
		for r := range 8 {
			thread.Regs = append(thread.Regs, api.Cell{Tag: uint8(r % 3), Val: uint16(100*k + r)})
		}
		m.Threads = append(m.Threads, thread)
	}
	return m
}

func TestCopyIsEqual(t *testing.T) {
	started, _ := program.Start(small(), api.Layout{Bases: []int{9, 4}, Key: 3})
	for name, m := range map[string]api.Machine{
		"running":          running(),
		"at the beginning": started,
		"nothing":          {},
		"empty slices":     {Layout: api.Layout{Bases: []int{}}, Memory: api.Memory{Cells: []api.Cell{}, Lines: []api.Line{}}, Threads: []api.Thread{}},
		"not valid":        {Layout: api.Layout{Bases: []int{-7}}, Memory: api.Memory{Cells: make([]api.Cell, 3)}, Threads: []api.Thread{{State: 99}, {Regs: make([]api.Cell, 77)}}},
	} {
		if got := program.Copy(m); !sameMachine(got, m) {
			t.Errorf("%s: %v", name, got)
		}
	}
}

// changes returns a function for each change of a running machine that reaches
// into one of its slices.
func changes() []func(m *api.Machine) {
	all := []func(m *api.Machine){func(m *api.Machine) { m.Layout.Key++ }}
	for k := range 2 {
		all = append(all, func(m *api.Machine) { m.Layout.Bases[k]++ })
	}
	for addr := range 512 {
		all = append(all, func(m *api.Machine) { m.Memory.Cells[addr].Val++ })
	}
	for k := range 4 {
		all = append(all, func(m *api.Machine) { m.Memory.Lines[k].Tag++ }, func(m *api.Machine) { m.Threads[k].PC++ })
		for i := range running().Memory.Lines[k].Cells {
			all = append(all, func(m *api.Machine) { m.Memory.Lines[k].Cells[i].Val++ })
		}
		for r := range 8 {
			all = append(all, func(m *api.Machine) { m.Threads[k].Regs[r].Val++ })
		}
	}
	return all
}

func TestCopyIsIndependent(t *testing.T) {
	for i, change := range changes() {
		m := running()
		c := program.Copy(m)
		change(&c)
		if sameMachine(c, m) || !sameMachine(m, running()) {
			t.Errorf("change %d of the copy changes the machine, or nothing", i)
		}
		c = program.Copy(m)
		change(&m)
		if sameMachine(c, m) || !sameMachine(c, running()) {
			t.Errorf("change %d of the machine changes the copy, or nothing", i)
		}
	}
}

// R1

func TestNoArgumentDoesHarm(t *testing.T) {
	extremes := []int{math.MinInt, math.MinInt + 1, -1 << 32, -1, 0, 1, 4, 8, 24, 25, 63, 64, 65536, 1 << 32, math.MaxInt}
	for _, v := range extremes {
		for _, op := range extremes {
			p := withCode(api.Instr{Op: op, A: v, B: v, C: v, Imm: v}, api.Instr{Op: api.OpJmp, Imm: v}, api.Instr{Op: api.OpLea, Imm: v})
			program.Check(p)
			program.Encode(p)
			program.Reach(p)
			program.Start(p, api.Layout{Bases: []int{v}})
			p.Sizes = []int{v, op}
			program.Check(p)
			p.Data = [][]uint16{words(40), nil}
			program.Check(p)
			program.Encode(p)
			program.Start(p, api.Layout{Bases: []int{op, v}})
			program.Start(small(), api.Layout{Bases: []int{op, v}})
		}
	}
	for n := range 600 {
		for _, v := range []byte{0, 1, 2, 3, 4, 5, 24, 25, 32, 64, 65, 128, 255} {
			b := make([]byte, n)
			for i := range b {
				b[i] = v
			}
			program.Decode(b)
			for i := range b {
				b[i] = byte(number(i + int(v)))
			}
			program.Decode(b)
		}
	}
}

// R2

func TestNilAndEmptySlicesAreTheSame(t *testing.T) {
	bare, empty := withCode(api.Instr{}), withCode(api.Instr{})
	empty.Data[0] = []uint16{}
	a, errnoA := program.Encode(bare)
	b, errnoB := program.Encode(empty)
	if errnoA != api.OK || errnoB != api.OK || !slices.Equal(a, b) {
		t.Error("Encode", a, errnoA, b, errnoB)
	}
	l := api.Layout{Bases: []int{4}}
	first, errnoA := program.Start(bare, l)
	second, errnoB := program.Start(empty, l)
	if errnoA != api.OK || errnoB != api.OK || !sameMachine(first, second) {
		t.Error("Start", errnoA, errnoB)
	}
	if _, errno := program.Decode([]byte{}); errno != api.ErrShort {
		t.Error("Decode", errno)
	}
}

func TestArgumentsAreNotChanged(t *testing.T) {
	p, l := full(), api.Layout{Bases: []int{480, 0, 300, 40}, Key: 1}
	program.Check(p)
	program.Start(p, l)
	program.Encode(p)
	program.Reach(p)
	if !equal(p, full()) || !slices.Equal(l.Bases, []int{480, 0, 300, 40}) {
		t.Error("a program or a layout has changed")
	}
	for _, c := range encodings {
		b := []byte(c.b + "\x07\x07")
		for n := range len(b) + 1 {
			program.Decode(b[:n])
			if string(b) != c.b+"\x07\x07" {
				t.Fatalf("%s: after Decode of %d bytes: %x", c.name, n, b)
			}
		}
	}
	m := running()
	program.Copy(m)
	if !sameMachine(m, running()) {
		t.Error("a machine has changed")
	}
}

// spoil overwrites all of a slice, what lies behind its end included.
func spoil[T any](list []T, v T) {
	list = list[:cap(list)]
	for i := range list {
		list[i] = v
	}
}

func spoilMachine(m api.Machine) {
	spoil(m.Layout.Bases, -99)
	spoil(m.Memory.Cells, api.Cell{Tag: 99})
	for _, line := range m.Memory.Lines {
		spoil(line.Cells, api.Cell{Tag: 99})
	}
	spoil(m.Memory.Lines, api.Line{Tag: 99})
	for _, thread := range m.Threads {
		spoil(thread.Regs, api.Cell{Tag: 99})
	}
	spoil(m.Threads, api.Thread{State: 99})
}

func TestResultsAreNewMemory(t *testing.T) {
	p, l := full(), api.Layout{Bases: []int{480, 0, 300, 40}, Key: 1}
	m, _ := program.Start(p, l)
	spoilMachine(m)
	b, _ := program.Encode(p)
	encoded := slices.Clone(b)
	spoil(b, 99)
	spoil(program.Reach(p), false)
	decoded, _ := program.Decode(encoded)
	spoil(decoded.Code, api.Instr{Op: 99})
	spoil(decoded.Sizes, 99)
	for _, list := range decoded.Data {
		spoil(list, 99)
	}
	spoil(decoded.Data, []uint16{99})
	if !equal(p, full()) || !slices.Equal(l.Bases, []int{480, 0, 300, 40}) {
		t.Error("a result shares memory with its argument")
	}
	if again, errno := program.Start(p, l); errno != api.OK || !sameMachine(again, firstMachine(full(), l)) {
		t.Error("Start", errno)
	}
	if again, errno := program.Decode(encoded); errno != api.OK || !equal(again, full()) {
		t.Error("Decode", errno)
	}
	if again, errno := program.Encode(p); errno != api.OK || !slices.Equal(again, encoded) {
		t.Error("Encode", errno)
	}
	// The jump at 18 goes to the last instruction.
	if got := reachable(p); got != times(19, "1")+times(44, "0")+"1" {
		t.Error("Reach", got)
	}
	c := running()
	spoilMachine(program.Copy(c))
	if !sameMachine(c, running()) {
		t.Error("Copy shares memory with its argument")
	}
}

// TestSlicesOfAResultAreIndependent: an argument may use one array several times,
// a result must not.
func TestSlicesOfAResultAreIndependent(t *testing.T) {
	cells := make([]api.Cell, 512)
	m := api.Machine{Memory: api.Memory{Cells: cells, Lines: make([]api.Line, 4)}, Threads: make([]api.Thread, 4)}
	for k := range 4 {
		m.Memory.Lines[k] = api.Line{Tag: k, Cells: cells[4*k : 4*k+4]}
		m.Threads[k].Regs = cells[:8]
	}
	list := []uint16{1, 2, 3}
	p := api.Program{Sizes: []int{3, 3}, Data: [][]uint16{list, list}, Code: nops(1)}
	for name, result := range map[string]func() api.Machine{
		"Copy": func() api.Machine { return program.Copy(m) },
		"Start": func() api.Machine {
			started, _ := program.Start(p, api.Layout{Bases: []int{1, 5}})
			return started
		},
	} {
		for k := range 4 {
			got, want := result(), result()
			spoil(got.Threads[k].Regs, api.Cell{Tag: 99})
			got.Threads[k].Regs = want.Threads[k].Regs
			spoil(got.Memory.Lines[k].Cells, api.Cell{Tag: 99})
			got.Memory.Lines[k].Cells = want.Memory.Lines[k].Cells
			if !sameMachine(got, want) {
				t.Errorf("%s: registers or line %d share memory with others", name, k)
			}
		}
	}
}

func TestSlicesOfADecodedProgramAreIndependent(t *testing.T) {
	b, _ := program.Encode(full())
	for k := range 4 {
		p, _ := program.Decode(b)
		spoil(p.Data[k], 99)
		p.Data[k] = full().Data[k]
		if !equal(p, full()) {
			t.Errorf("the data of region %d share memory with others", k)
		}
	}
}
