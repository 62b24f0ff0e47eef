package assembler_test

import (
	"math"
	"slices"
	"strconv"
	"strings"
	"testing"

	"redundancy/api"
	"redundancy/assembler"
)

// names are the names of the operations 0 to 24. They are written out here, so
// that the package is not checked against itself.
var names = strings.Fields("nop li mov add sub mul div rem and or xor shl shr lt eq lea ld st jmp jz jnz jal jr sys rti")

// uses says for each operation which fields it uses, I for Imm as a number and
// L for Imm as the label of an instruction.
var uses = strings.Split(" AI AB ABC ABC ABC ABC ABC ABC ABC ABC ABC ABC ABC ABC AI ABI ABI L AL AL AL A I ", " ")

// greatestImm returns the greatest Imm of an operation in a program with that
// many instructions and regions.
func greatestImm(op, instructions, regions int) int {
	switch {
	case strings.Contains(uses[op], "L"):
		return instructions - 1
	case op == api.OpLea:
		return regions - 1
	case op == api.OpSys:
		return 15
	case strings.Contains(uses[op], "I"):
		return 65535
	}
	return 0
}

// one is a program with a region of one word and the instructions of code.
func one(code ...api.Instr) api.Program {
	return api.Program{Code: code, Sizes: []int{1}, Data: [][]uint16{nil}}
}

// same reports whether two programs are the same, where a nil slice is an empty
// one.
func same(a, b api.Program) bool {
	data := func(x, y []uint16) bool { return slices.Equal(x, y) }
	return slices.Equal(a.Code, b.Code) && slices.Equal(a.Sizes, b.Sizes) && slices.EqualFunc(a.Data, b.Data, data)
}

// copyOf returns an independent copy of a program.
func copyOf(p api.Program) api.Program {
	data := make([][]uint16, len(p.Data))
	for k := range data {
		data[k] = slices.Clone(p.Data[k])
	}
	return api.Program{Code: slices.Clone(p.Code), Sizes: slices.Clone(p.Sizes), Data: data}
}

// wantText checks what Print returns of a program.
func wantText(t *testing.T, p api.Program, want string) {
	t.Helper()
	if got, errno := assembler.Print(p); errno != api.OK || got != want {
		t.Errorf("Print(%+v) = %q, %d, want %q", p, got, errno, want)
	}
}

// wantProgram checks what Parse returns of a text that is right.
func wantProgram(t *testing.T, text string, want api.Program) {
	t.Helper()
	got, lines, errno := assembler.Parse(text)
	if errno != api.OK || lines != strings.Count(text, "\n") || !same(got, want) {
		t.Errorf("Parse(%.200q) = %+v, %d, %d, want %+v", text, got, lines, errno, want)
	}
}

// wantError checks what Parse returns of a text that is wrong.
func wantError(t *testing.T, text string, index int, errno api.Errno) {
	t.Helper()
	got, gotIndex, gotErrno := assembler.Parse(text)
	if gotErrno != errno || gotIndex != index || !same(got, api.Program{}) {
		t.Errorf("Parse(%.200q) = %+v, %d, %d, want index %d and error %d", text, got, gotIndex, gotErrno, index, errno)
	}
}

// numbers is a source of numbers that are the same in each run.
type numbers uint64

func (n *numbers) below(limit int) int {
	*n = *n*6364136223846793005 + 1442695040888963407
	return int(uint64(*n)>>33) % limit
}

// someProgram returns a valid program of any kind.
func someProgram(n *numbers) api.Program {
	var p api.Program
	for range 1 + n.below(4) {
		size := 1 + n.below(32)
		data := make([]uint16, n.below(size+1))
		for k := range data {
			data[k] = uint16(n.below(65536) >> n.below(16))
		}
		p.Sizes, p.Data = append(p.Sizes, size), append(p.Data, data)
	}
	instructions := 1 + n.below(64)
	for range instructions {
		i := api.Instr{Op: n.below(25)}
		if strings.Contains(uses[i.Op], "A") {
			i.A = n.below(8)
		}
		if strings.Contains(uses[i.Op], "B") {
			i.B = n.below(8)
		}
		if strings.Contains(uses[i.Op], "C") {
			i.C = n.below(8)
		}
		i.Imm = n.below(greatestImm(i.Op, instructions, len(p.Sizes)) + 1)
		p.Code = append(p.Code, i)
	}
	return p
}

// greatest returns the program whose text is as long as a text of Print can be:
// all regions full of the longest numbers, a label in front of each instruction.
func greatest() api.Program {
	var p api.Program
	for range 4 {
		p.Sizes = append(p.Sizes, 32)
		p.Data = append(p.Data, slices.Repeat([]uint16{65535}, 32))
	}
	for k := range 64 {
		p.Code = append(p.Code, api.Instr{Op: api.OpJnz, A: 7, Imm: 63 - k})
	}
	return p
}

// P7.1: Name

func TestNameOfEachOperation(t *testing.T) {
	if len(names) != 25 || len(uses) != 25 {
		t.Fatal("the tables of this test are not whole")
	}
	for op, want := range names {
		if got := assembler.Name(op); got != want {
			t.Errorf("Name(%d) = %q, want %q", op, got, want)
		}
	}
	for op, want := range map[int]string{api.OpNop: "nop", api.OpLI: "li", api.OpMov: "mov", api.OpShr: "shr", api.OpEq: "eq", api.OpLea: "lea", api.OpSt: "st", api.OpJal: "jal", api.OpJr: "jr", api.OpSys: "sys", api.OpRti: "rti"} {
		if got := assembler.Name(op); got != want {
			t.Errorf("Name(%d) = %q, want %q", op, got, want)
		}
	}
}

func TestNameOfOtherNumbers(t *testing.T) {
	for _, op := range []int{math.MinInt, math.MinInt + 1, -1 << 32, -256, -25, -24, -2, -1, 25, 26, 27, 49, 50, 255, 256, 257, 65536, 1 << 32, 1<<32 + 1, math.MaxInt - 1, math.MaxInt} {
		if got := assembler.Name(op); got != "" {
			t.Errorf("Name(%d) = %q", op, got)
		}
	}
}

// P7.1: Print

func TestPrintExample(t *testing.T) {
	p := api.Program{Sizes: []int{2}, Data: [][]uint16{{7}}, Code: []api.Instr{{Op: api.OpLI, Imm: 1}, {Op: api.OpJmp, Imm: 1}}}
	wantText(t, p, "region 2 7\nli r0 1\nl1:\njmp l1\n")
}

// eachOperation returns for each operation the line of an instruction that has
// another value in each field, and the instruction; labels are those of index 0.
func eachOperation() map[string]api.Instr {
	return map[string]api.Instr{
		"nop":            {Op: 0},
		"li r1 258":      {Op: 1, A: 1, Imm: 258},
		"mov r1 r2":      {Op: 2, A: 1, B: 2},
		"add r1 r2 r3":   {Op: 3, A: 1, B: 2, C: 3},
		"sub r7 r0 r6":   {Op: 4, A: 7, B: 0, C: 6},
		"mul r0 r1 r2":   {Op: 5, A: 0, B: 1, C: 2},
		"div r3 r4 r5":   {Op: 6, A: 3, B: 4, C: 5},
		"rem r5 r6 r7":   {Op: 7, A: 5, B: 6, C: 7},
		"and r2 r1 r0":   {Op: 8, A: 2, B: 1, C: 0},
		"or r4 r3 r2":    {Op: 9, A: 4, B: 3, C: 2},
		"xor r1 r1 r2":   {Op: 10, A: 1, B: 1, C: 2},
		"shl r6 r5 r4":   {Op: 11, A: 6, B: 5, C: 4},
		"shr r3 r2 r1":   {Op: 12, A: 3, B: 2, C: 1},
		"lt r1 r3 r5":    {Op: 13, A: 1, B: 3, C: 5},
		"eq r2 r4 r6":    {Op: 14, A: 2, B: 4, C: 6},
		"lea r5 0":       {Op: 15, A: 5},
		"ld r1 r2 65535": {Op: 16, A: 1, B: 2, Imm: 65535},
		"st r3 r4 10":    {Op: 17, A: 3, B: 4, Imm: 10},
		"jr r4":          {Op: 22, A: 4},
		"sys 15":         {Op: 23, Imm: 15},
		"rti":            {Op: 24},
	}
}

func TestPrintEachOperation(t *testing.T) {
	for line, i := range eachOperation() {
		wantText(t, one(i), "region 1\n"+line+"\n")
	}
	for line, i := range map[string]api.Instr{"jmp l0": {Op: 18}, "jz r1 l0": {Op: 19, A: 1}, "jnz r2 l0": {Op: 20, A: 2}, "jal r3 l0": {Op: 21, A: 3}} {
		wantText(t, one(i), "region 1\nl0:\n"+line+"\n")
	}
}

func TestPrintRegions(t *testing.T) {
	nop := []api.Instr{{}}
	for _, c := range []struct {
		sizes []int
		data  [][]uint16
		want  string
	}{
		{[]int{1}, [][]uint16{nil}, "region 1\nnop\n"},
		{[]int{1}, [][]uint16{{}}, "region 1\nnop\n"},
		{[]int{1}, [][]uint16{{0}}, "region 1 0\nnop\n"},
		{[]int{32}, [][]uint16{{65535, 0, 10}}, "region 32 65535 0 10\nnop\n"},
		{[]int{3, 2}, [][]uint16{{1, 2, 3}, {4, 5}}, "region 3 1 2 3\nregion 2 4 5\nnop\n"},
		{[]int{4, 3, 2, 1}, [][]uint16{nil, {9}, nil, {1}}, "region 4\nregion 3 9\nregion 2\nregion 1 1\nnop\n"},
		{[]int{32}, [][]uint16{make([]uint16, 32)}, "region 32" + strings.Repeat(" 0", 32) + "\nnop\n"},
	} {
		wantText(t, api.Program{Sizes: c.sizes, Data: c.data, Code: nop}, c.want)
	}
}

func TestPrintHasALabelInFrontOfEachTarget(t *testing.T) {
	nop := api.Instr{}
	for _, op := range []int{18, 19, 20, 21} {
		line := names[op]
		if op != api.OpJmp {
			line += " r0"
		}
		for _, c := range []struct {
			targets []int
			want    string
		}{
			{[]int{0}, "l0:\n# l0\n"},
			{[]int{1}, "# l1\nl1:\nnop\n"},
			{[]int{1, 2}, "# l1\nl1:\n# l2\nl2:\nnop\n"},
			{[]int{1, 0}, "l0:\n# l1\nl1:\n# l0\n"},
			{[]int{0, 0, 0}, "l0:\n# l0\n# l0\n# l0\n"},
			{[]int{2, 2, 2}, "# l2\n# l2\nl2:\n# l2\n"},
		} {
			var code []api.Instr
			for _, target := range c.targets {
				code = append(code, api.Instr{Op: op, Imm: target})
			}
			for len(code) <= slices.Max(c.targets) {
				code = append(code, nop)
			}
			wantText(t, one(code...), "region 1\n"+strings.ReplaceAll(c.want, "#", line))
		}
	}
}

// TestPrintHasNoLabelForOtherNumbers has instructions whose Imm is a number that
// is the index of an instruction, too.
func TestPrintHasNoLabelForOtherNumbers(t *testing.T) {
	p := api.Program{Sizes: []int{1, 1}, Data: [][]uint16{{1}, {0}}, Code: []api.Instr{{Op: api.OpLI, Imm: 1}, {Op: api.OpLea, Imm: 1}, {Op: api.OpLd, Imm: 2}, {Op: api.OpSt, Imm: 3}, {Op: api.OpSys, Imm: 4}, {Op: api.OpJr}, {Op: api.OpRti}}}
	wantText(t, p, "region 1 1\nregion 1 0\nli r0 1\nlea r0 1\nld r0 r0 2\nst r0 r0 3\nsys 4\njr r0\nrti\n")
}

func TestPrintLabelsUpToTheLastInstruction(t *testing.T) {
	for k := range 64 {
		code := make([]api.Instr, 64)
		at := (k + 1) % 64
		code[at] = api.Instr{Op: api.OpJal, A: 5, Imm: k}
		label := "l" + strconv.Itoa(k)
		lines := slices.Repeat([]string{"nop\n"}, 64)
		lines[at] = "jal r5 " + label + "\n"
		lines[k] = label + ":\n" + lines[k]
		wantText(t, one(code...), "region 1\n"+strings.Join(lines, ""))
	}
}

func TestPrintOfAsMuchAsIsPermitted(t *testing.T) {
	var want strings.Builder
	for range 4 {
		want.WriteString("region 32" + strings.Repeat(" 65535", 32) + "\n")
	}
	for k := range 64 {
		want.WriteString("l" + strconv.Itoa(k) + ":\njnz r7 l" + strconv.Itoa(63-k) + "\n")
	}
	wantText(t, greatest(), want.String())
}

// refused returns programs that Check of chapter 8 does not accept.
func refused() map[string]api.Program {
	nop := []api.Instr{{}}
	bad := map[string]api.Program{
		"nothing":               {},
		"no sizes":              {Code: nop},
		"no data":               {Code: nop, Sizes: []int{1}},
		"less data":             {Code: nop, Sizes: []int{1, 2}, Data: [][]uint16{{1}}},
		"more lists":            {Code: nop, Sizes: []int{1}, Data: [][]uint16{{1}, nil}},
		"no sizes, but data":    {Code: nop, Data: [][]uint16{{1}}},
		"size 0":                {Code: nop, Sizes: []int{0}, Data: [][]uint16{nil}},
		"size 33":               {Code: nop, Sizes: []int{33}, Data: [][]uint16{nil}},
		"negative size":         {Code: nop, Sizes: []int{2, -1}, Data: [][]uint16{nil, nil}},
		"greatest size":         {Code: nop, Sizes: []int{math.MaxInt}, Data: [][]uint16{nil}},
		"five regions":          {Code: nop, Sizes: []int{1, 1, 1, 1, 1}, Data: make([][]uint16, 5)},
		"more words":            {Code: nop, Sizes: []int{1}, Data: [][]uint16{{1, 2}}},
		"more words in another": {Code: nop, Sizes: []int{3, 2}, Data: [][]uint16{{1, 2}, {1, 2, 3}}},
		"no code":               one(),
		"65 instructions":       one(make([]api.Instr, 65)...),
		"lea without a region":  one(api.Instr{Op: api.OpLea, Imm: 1}),
		"lea of a fourth":       {Code: []api.Instr{{Op: api.OpLea, Imm: 3}}, Sizes: []int{1, 1, 1}, Data: make([][]uint16, 3)},
		"a bad one at the end":  one(api.Instr{}, api.Instr{}, api.Instr{Op: 25}),
	}
	for _, op := range []int{18, 19, 20, 21} {
		bad["a target behind one instruction, "+names[op]] = one(api.Instr{Op: op, Imm: 1})
		bad["a target behind three instructions, "+names[op]] = one(api.Instr{}, api.Instr{Op: op, Imm: 3}, api.Instr{})
		bad["a target that is none, "+names[op]] = one(append(make([]api.Instr, 63), api.Instr{Op: op, Imm: 64})...)
		bad["a negative target, "+names[op]] = one(api.Instr{Op: op, Imm: -1})
	}
	for k, i := range []api.Instr{{Op: -1}, {Op: 25}, {Op: math.MinInt}, {Op: math.MaxInt}, {Op: 1, A: 8}, {Op: 1, A: -1}, {Op: 1, Imm: 65536}, {Op: 1, Imm: -1}, {Op: 2, B: 8}, {Op: 3, C: 8}, {Op: 0, Imm: 1}, {Op: 0, A: 1}, {Op: 24, C: 1}, {Op: 16, C: 1}, {Op: 23, Imm: 16}, {Op: 15, Imm: 4}, {Op: 15, Imm: -1}, {Op: 22, Imm: 1}} {
		bad["an instruction, "+strconv.Itoa(k)] = one(i)
	}
	return bad
}

func TestPrintOfWhatIsNoProgram(t *testing.T) {
	for name, p := range refused() {
		if got, errno := assembler.Print(p); errno != api.ErrArg || got != "" {
			t.Errorf("%s: %q, %d", name, got, errno)
		}
	}
}

// P7.2: what Parse reads

func TestParseExample(t *testing.T) {
	want := api.Program{Sizes: []int{2}, Data: [][]uint16{{7}}, Code: []api.Instr{{Op: api.OpLI, Imm: 1}, {Op: api.OpJmp, Imm: 1}}}
	wantProgram(t, "region 2 7\nli r0 1\nl1:\njmp l1\n", want)
}

func TestParseEachOperation(t *testing.T) {
	for line, i := range eachOperation() {
		wantProgram(t, "region 1\n"+line+"\n", one(i))
	}
	for line, i := range map[string]api.Instr{"jmp a": {Op: 18, Imm: 1}, "jz r1 a": {Op: 19, A: 1, Imm: 1}, "jnz r2 a": {Op: 20, A: 2, Imm: 1}, "jal r3 a": {Op: 21, A: 3, Imm: 1}} {
		wantProgram(t, "region 1\n"+line+"\na:\nnop\n", one(i, api.Instr{}))
	}
}

func TestParseRegistersAndNumbersUpToTheGreatest(t *testing.T) {
	for register := range 8 {
		r := "r" + strconv.Itoa(register)
		wantProgram(t, "region 1\nadd "+r+" r0 r1\n", one(api.Instr{Op: 3, A: register, C: 1}))
		wantProgram(t, "region 1\nadd r0 "+r+" r1\n", one(api.Instr{Op: 3, B: register, C: 1}))
		wantProgram(t, "region 1\nadd r0 r1 "+r+"\n", one(api.Instr{Op: 3, B: 1, C: register}))
	}
	for _, imm := range []int{0, 1, 9, 10, 11, 99, 100, 255, 256, 6553, 9999, 10000, 32767, 32768, 65529, 65530, 65534, 65535} {
		text := strconv.Itoa(imm)
		wantProgram(t, "region 1\nli r2 "+text+"\n", one(api.Instr{Op: 1, A: 2, Imm: imm}))
		wantProgram(t, "region 1\nld r2 r3 "+text+"\n", one(api.Instr{Op: 16, A: 2, B: 3, Imm: imm}))
		wantProgram(t, "region 1\nst r2 r3 "+text+"\n", one(api.Instr{Op: 17, A: 2, B: 3, Imm: imm}))
		wantProgram(t, "region 1 "+text+"\nnop\n", api.Program{Sizes: []int{1}, Data: [][]uint16{{uint16(imm)}}, Code: []api.Instr{{}}})
	}
	for imm := range 16 {
		wantProgram(t, "region 1\nsys "+strconv.Itoa(imm)+"\n", one(api.Instr{Op: 23, Imm: imm}))
	}
}

func TestParseRegions(t *testing.T) {
	for size := 1; size <= 32; size++ {
		for _, words := range []int{0, 1, size - 1, size} {
			data := make([]uint16, words)
			line := "region " + strconv.Itoa(size)
			for k := range data {
				data[k] = uint16(1000*k + size)
				line += " " + strconv.Itoa(1000*k+size)
			}
			want := api.Program{Sizes: []int{5, size}, Data: [][]uint16{{7}, data}, Code: []api.Instr{{}}}
			wantProgram(t, "region 5 7\n"+line+"\nnop\n", want)
		}
	}
	for regions := 1; regions <= 4; regions++ {
		for k := range regions {
			text := strings.Repeat("region 2 5\n", regions) + "lea r1 " + strconv.Itoa(k) + "\n"
			want := api.Program{Sizes: slices.Repeat([]int{2}, regions), Data: slices.Repeat([][]uint16{{5}}, regions), Code: []api.Instr{{Op: api.OpLea, A: 1, Imm: k}}}
			wantProgram(t, text, want)
		}
	}
}

func TestParseAnyLabels(t *testing.T) {
	labels := append([]string{"a", "z", "m", "a0", "z9", "abcdefgh", "a1234567", "zz9zz9zz", "x0000000", "l0", "l1", "l63", "l99", "r0", "r1", "r9", "region", "regions"}, names...)
	for _, label := range labels {
		for _, jump := range []string{"jmp", "jz r0", "jnz r0", "jal r0"} {
			op := slices.Index(names, strings.Fields(jump)[0])
			back := []api.Instr{{}, {Op: op, Imm: 0}}
			wantProgram(t, "region 1\n"+label+":\nnop\n"+jump+" "+label+"\n", one(back...))
			forth := []api.Instr{{}, {Op: op, Imm: 2}, {Op: 24}}
			wantProgram(t, "region 1\nnop\n"+jump+" "+label+"\n"+label+":\nrti\n", one(forth...))
			itself := []api.Instr{{}, {Op: op, Imm: 1}}
			wantProgram(t, "region 1\nnop\n"+label+":\n"+jump+" "+label+"\n", one(itself...))
		}
	}
}

func TestParseLabelsInARow(t *testing.T) {
	jumps := []api.Instr{{Op: 18, Imm: 1}, {Op: 18, Imm: 2}, {Op: 18, Imm: 2}, {Op: 18, Imm: 2}, {Op: 18, Imm: 4}}
	wantProgram(t, "region 1\nunused:\njmp e\ne:\njmp b\na:\nb:\nc:\njmp a\njmp c\nd:\nd1:\njmp d\n", one(jumps...))
	wantProgram(t, "region 1\na:\nb:\nc:\nnop\n", one(api.Instr{}))
}

func TestParseLabelsThatDifferInOneByte(t *testing.T) {
	want := []api.Instr{{Op: 18, Imm: 3}, {Op: 18, Imm: 1}, {Op: 18, Imm: 0}, {Op: 18, Imm: 2}}
	wantProgram(t, "region 1\naaaaaaaa:\njmp aaaaaaab\naaaaaaa:\njmp aaaaaaa\nb:\njmp aaaaaaaa\naaaaaaab:\njmp b\n", one(want...))
}

func TestParseAsMuchAsIsPermitted(t *testing.T) {
	text, _ := assembler.Print(greatest())
	wantProgram(t, text, greatest())
	last := one(append(make([]api.Instr, 63), api.Instr{Op: api.OpJmp, Imm: 63})...)
	wantProgram(t, "region 1\n"+strings.Repeat("nop\n", 63)+"a:\njmp a\n", last)
}

// padded returns a text with that many bytes, the last of which form rest: labels
// that nothing goes to stand in front of it.
func padded(bytes int, rest string) string {
	text := "region 1\n"
	for k := 0; bytes-len(text)-len(rest) >= 13; k++ {
		text += "a" + strconv.Itoa(1000000+k) + ":\n"
	}
	for k := 'b'; len(text)+len(rest) < bytes; k++ {
		length := min(bytes-len(text)-len(rest), 6)
		text += strings.Repeat(string(k), length-2) + ":\n"
	}
	return text + rest
}

func TestParseTextsUpToTheGreatestLength(t *testing.T) {
	for _, bytes := range []int{4095, 4096} {
		text := padded(bytes, "nop\n")
		if len(text) != bytes {
			t.Fatalf("the text has %d bytes, not %d", len(text), bytes)
		}
		wantProgram(t, text, one(api.Instr{}))
	}
}

// P7.2: errors

func TestParseOfTooLongTexts(t *testing.T) {
	for _, text := range []string{padded(4097, "nop\n"), padded(4098, "nop\n"), padded(4097, "nop\nx"), strings.Repeat("\n", 4097), strings.Repeat("x", 4097), strings.Repeat("nop\n", 100000)} {
		wantError(t, text, -1, api.ErrLimit)
	}
	wantError(t, padded(4096, "nop\nx"), strings.Count(padded(4096, "nop\nx"), "\n"), api.ErrSyntax)
	wantError(t, strings.Repeat("\n", 4096), 0, api.ErrSyntax)
	wantError(t, strings.Repeat("x", 4096), 0, api.ErrSyntax)
}

func TestParseOfTextsWithoutRegionsOrInstructions(t *testing.T) {
	for _, text := range []string{"", "region 1\n", "region 1\nregion 2 5\n", "nop\n", "a:\nnop\n", "nop\nli r0 5\n", "a:\n", "a:\njmp a\n", "region 1\na:\n"} {
		wantError(t, text, -1, api.ErrSyntax)
	}
}

func TestParseOfLabelsAtTheEnd(t *testing.T) {
	for _, text := range []string{"nop\na:\n", "nop\na:\nb:\n", "jmp a\na:\n", "a:\nnop\njz r0 a\nb:\n", "a:\nnop\nb:\nnop\nc:\nd:\n", strings.Repeat("nop\n", 64) + "a:\n"} {
		wantError(t, "region 1\n"+text, -1, api.ErrSyntax)
	}
}

// wrongLines returns lines that have none of the forms.
func wrongLines() []string {
	return []string{
		"", " ", "  ", ".", "x", "#", "# x", "nop # x", ";", "0", "7", "r1", "regio", "region1", "Region 1", "REGION 1", "regions 1", "reg 1", "halt", "call 1", "NOP", "Nop", "no", "nopp", "nop nop", "nop,", "nop;", "nop\r", "\tnop", "nop\t", " nop", "nop ", "  nop", "nop  ", "\x00", "nop\x00", "\xff", "l1", "ld1",
		"nop 0", "nop r0", "rti 0", "rti r0", "nop a", "rti :", "jr", "jr r", "jr r1 r2", "jr a", "jr 1", "jr r1 0", "jr l1", "jr R1", "jr rr1", "jr r+1", "jr r-1", "jr r 1", "jr r1:", "jr r01", "jr r00", "jr r1.", "jr x1",
		"li", "li r1", "li 1 r1", "li 1 1", "li r1 r1", "li r1 1 1", "li r1 x", "li r1 a", "li r1  1", "li  r1 1", "li r1 1 ", " li r1 1", "li r1\t1", "li\tr1 1", "li r1,1", "li r1, 1", "li r1 01", "li r1 00", "li r1 007", "li r1 +1", "li r1 -1", "li r1 -0", "li r1 1.0", "li r1 1e3", "li r1 0x1", "li r1 1_0", "li r1 #1", "li r1 1a", "li r1 a1", "li r1 0a", "li r1 '1'", "li r1 \u0661", "li r1 1\u00a0", "li\u00a0r1 1", "li r1 ", "li r01 1", "li r00 1", "li r 1", "li r", "li R1 1", "li r1a 1", "li a 1", "li l1 1", "li r-1 1", "li r1 :", "li r1 1\r", "li r1 1;", "li r1 -65536",
		"mov", "mov r1", "mov r1 2", "mov r1 r2 r3", "mov r1 a", "mov 1 r2", "mov 1 2", "mov r1 r02", "mov r1 r", "mov  r1 r2",
		"add", "add r1", "add r1 r2", "add r1 r2 3", "add r1 2 r3", "add 1 r2 r3", "add r1 r2 r3 r4", "add r1 r2 r3 0", "add r1 r2 r03", "eq r1 r2", "eq r1 r2 a", "shr r1 r2 1",
		"lea", "lea r1", "lea 0", "lea r1 r0", "lea r1 a", "lea r1 0 0", "lea r1 00", "lea r1 region", "lea r1 -1",
		"ld r1 r2", "ld r1 0", "ld r1 0 r2", "ld r1 r2 r3", "ld r1 r2 0 0", "ld r1 r2 a", "ld r1 r2 -1", "st r1 r2", "st r1 1 1", "st 1 r2 1", "st r1 r2 01",
		"jmp", "jmp 0", "jmp 1", "jmp r0 a", "jmp a b", "jmp a:", "jmp A", "jmp aB", "jmp 1a", "jmp a-b", "jmp a_b", "jmp a.", "jmp abcdefghi", "jmp a12345678", "jmp \u00e9", "jmp a\u00e9", "jmp a ", "jmp  a", "jmp ", "jmp a\t", "jmp a\x00", "jmp a`", "jmp a{", "jmp `a", "jmp {a", "jmp a/", "jmp :",
		"jz a", "jz r1", "jz a r1", "jz r1 1", "jz 1 a", "jz r1 a b", "jz r1 A", "jz r01 a", "jnz", "jnz r1", "jnz r1 r2 a", "jnz r1 0", "jal", "jal a", "jal r1", "jal r1 2", "jal r1 abcdefghi",
		"sys", "sys r1", "sys a", "sys 1 1", "sys 01", "sys -1", "sys exit", "sys 15 ",
		":", " :", "::", "a::", "a:b", "a: ", " a:", "a :", "a b:", "a: nop", "a:nop", "A:", "aB:", "1:", "1a:", "9z:", "abcdefghi:", "a12345678:", "a-b:", "a_b:", "a.:", "a\t:", "a\r:", "a:\r", "\u00e9:", "a\u00e9:", "a`:", "a{:", "`:", "{:", "@:", "[:", "a/:", "\x00:", "nop:nop", "region 1:", "nop :", "li r1 1:", "jmp a:",
	}
}

func TestParseOfLinesWithoutAForm(t *testing.T) {
	for _, line := range wrongLines() {
		wantError(t, line+"\n", 0, api.ErrSyntax)
		wantError(t, "region 1\n"+line+"\n", 1, api.ErrSyntax)
		wantError(t, "region 1\na:\nnop\n"+line+"\nnop\n", 3, api.ErrSyntax)
		wantError(t, "region 1\njmp none\nnop\n"+line+"\nx\nb:\n", 3, api.ErrSyntax)
		if line != "" { // it would be a text that ends with its last line
			wantError(t, "region 1\nnop\n"+line, 2, api.ErrSyntax)
		}
	}
}

func TestParseOfRegionsWithoutAForm(t *testing.T) {
	for _, line := range []string{"region", "region ", "region  1", "region 1 ", " region 1", "region x", "region r1", "region 01", "region 00", "region -1", "region +1", "region 1.0", "region 1 x", "region 1 01", "region 1 00", "region 1 -1", "region 1  1", "region 2 1  1", "region 1,1", "region 2 1,1", "region a 1", "region\t1", "region 1\r", "region 1\t1", "region 1 r1", "region 1:1", "region 1 0x1"} {
		wantError(t, line+"\nnop\n", 0, api.ErrSyntax)
		wantError(t, "region 1\nregion 2 7\n"+line+"\nnop\n", 2, api.ErrSyntax)
	}
}

func TestParseOfRegionsBehindInstructionsOrLabels(t *testing.T) {
	for _, front := range []string{"nop\n", "region 1\nnop\n", "a:\n", "region 1\na:\n", "region 1\na:\nnop\n", "region 1\nregion 2\nnop\nnop\n", "jmp b\n", "region 1\njmp b\nb:\n"} {
		for _, line := range []string{"region 1", "region 1 5", "region 0", "region 33", "region 1 1 2", "region 1 65536"} {
			wantError(t, front+line+"\nnop\n", strings.Count(front, "\n"), api.ErrSyntax)
		}
	}
}

func TestParseOfLabelsThatWereThereBefore(t *testing.T) {
	for _, label := range []string{"a", "nop", "region", "l0", "abcdefgh", "z9"} {
		again := label + ":\n"
		wantError(t, "region 1\n"+again+again+"nop\n", 2, api.ErrSyntax)
		wantError(t, "region 1\n"+again+"nop\n"+again+"nop\n", 3, api.ErrSyntax)
		wantError(t, "region 1\n"+again+"nop\nb:\njmp "+label+"\nc:\n"+again, 6, api.ErrSyntax)
		wantError(t, "region 1\njmp none\nnop\n"+again+"b:\n"+again, 5, api.ErrSyntax)
	}
}

func TestParseOfALastLineThatDoesNotEnd(t *testing.T) {
	for _, c := range []struct {
		text  string
		index int
	}{
		{"nop", 0}, {"region 1", 0}, {"region 99", 0}, {"x", 0}, {" ", 0}, {"a:", 0}, {"jmp none", 0}, {"sys 16", 0},
		{"region 1\nnop", 1}, {"region 1\nli r9 1", 1}, {"region 1\njmp none", 1}, {"region 1\na:", 1}, {"region 1\nnop\nregion 1", 2}, {"region 1\nnop\nnop\r", 2},
		{"region 1\njmp none\nnop", 2}, {"region 1\na:\na:", 2}, {"region 1\n" + strings.Repeat("nop\n", 64) + "nop", 65},
	} {
		wantError(t, c.text, c.index, api.ErrSyntax)
	}
	wantError(t, "region 1\nli r9 1\nnop", 1, api.ErrRange)
	wantError(t, "region 1\nnop\n\nnop", 2, api.ErrSyntax)
}

// tooGreat are numbers beyond 65535, among them those that an integer of any
// width would take for a small one.
func tooGreat() []string {
	list := []string{"65536", "65537", "65540", "70000", "99999", "100000", "131072", "131073", "655350", "1000000", "4294967295", "4294967296", "4294967297", "9223372036854775807", "9223372036854775808", "9223372036854775809", "18446744073709551615", "18446744073709551616", "18446744073709551617", "36893488147419103233", "340282366920938463463374607431768211457"}
	for length := 6; length < 400; length++ {
		list = append(list, "1"+strings.Repeat("0", length-1), strings.Repeat("9", length))
	}
	return list
}

func TestParseOfTooGreatNumbers(t *testing.T) {
	for _, number := range tooGreat() {
		for _, line := range []string{"region #\nnop", "region 1 #\nnop", "region 3 1 # 2\nnop"} {
			wantError(t, strings.ReplaceAll(line, "#", number)+"\n", 0, api.ErrRange)
		}
		for _, line := range []string{"li r1 #", "lea r1 #", "ld r1 r2 #", "st r1 r2 #", "sys #", "jr r#", "li r# 1", "mov r1 r#", "mov r# r1", "add r# r1 r2", "add r1 r# r2", "add r1 r2 r#", "jz r# a", "ld r1 r# 5"} {
			wantError(t, "region 1\na:\n"+strings.ReplaceAll(line, "#", number)+"\nnop\n", 2, api.ErrRange)
		}
	}
}

func TestParseOfRegistersThatDoNotExist(t *testing.T) {
	for op, fields := range uses {
		for at := range len(fields) {
			if !strings.Contains("ABC", fields[at:at+1]) {
				continue
			}
			for _, register := range []string{"r7", "r8", "r9", "r10", "r15", "r16", "r70", "r255", "r256", "r257", "r1000", "r65535"} {
				words := []string{names[op]}
				for k, field := range fields {
					word := map[rune]string{'A': "r0", 'B': "r0", 'C': "r0", 'I': "0", 'L': "a"}[field]
					if k == at {
						word = register
					}
					words = append(words, word)
				}
				text := "region 1\na:\n" + strings.Join(words, " ") + "\n"
				if register != "r7" {
					wantError(t, text, 2, api.ErrRange)
				} else if _, _, errno := assembler.Parse(text); errno != api.OK {
					t.Errorf("Parse(%q): %d", text, errno)
				}
			}
		}
	}
}

func TestParseOfRegionsOutOfRange(t *testing.T) {
	for _, line := range []string{"region 0", "region 0 1", "region 33", "region 33 1", "region 34", "region 64", "region 100", "region 256", "region 257", "region 65535", "region 1 1 2", "region 2 1 2 3", "region 32" + strings.Repeat(" 7", 33), "region 31" + strings.Repeat(" 7", 32), "region 5 1 2 65536", "region 1 65536 1"} {
		wantError(t, line+"\nnop\n", 0, api.ErrRange)
		wantError(t, "region 1\nregion 2 7\n"+line+"\nnop\n", 2, api.ErrRange)
	}
}

func TestParseOfMoreThanIsPermitted(t *testing.T) {
	four := strings.Repeat("region 1\n", 4)
	for _, line := range []string{"region 1", "region 32 1 2", "region 0"} {
		wantError(t, four+line+"\nnop\n", 4, api.ErrRange)
		wantError(t, four+line+"\n"+line+"\nnop\n", 4, api.ErrRange)
	}
	many := "region 1\n" + strings.Repeat("nop\n", 64)
	for _, line := range []string{"nop", "li r0 1", "jmp a", "jmp none", "sys 16", "rti"} {
		wantError(t, many+line+"\n", 65, api.ErrRange)
		wantError(t, many+"a:\nb:\n"+line+"\n"+line+"\nc:\n", 67, api.ErrRange)
	}
}

func TestParseOfLeaOfARegionThatWasNotNamed(t *testing.T) {
	for regions := range 5 {
		front := strings.Repeat("region 1\n", regions)
		for _, k := range []int{regions, regions + 1, 4, 5, 63, 65535} {
			wantError(t, front+"lea r1 "+strconv.Itoa(k)+"\nnop\n", regions, api.ErrRange)
		}
	}
	wantError(t, "lea r1 0\nregion 1\n", 0, api.ErrRange)
}

func TestParseOfCallsThatDoNotExist(t *testing.T) {
	for _, call := range []int{16, 17, 20, 100, 150, 255, 256, 271, 65535} {
		wantError(t, "region 1\nnop\nsys "+strconv.Itoa(call)+"\n", 2, api.ErrRange)
	}
}

// TestParseNamesTheFirstErrorOfALine has lines for which both kinds hold.
func TestParseNamesTheFirstErrorOfALine(t *testing.T) {
	for _, line := range []string{"li r9 x", "li r8 01", "li x 65536", "li 9 65536", "li r1 65536 1", "lea r1 65536 x", "mov r8 2", "mov r9", "add r8 r9 x", "add r8 r9", "ld r8 r1 a", "jz r8 1", "jz r9 A", "jnz r8", "jal r10 abcdefghi", "sys 16 16", "sys 16 ", "sys 016", "jr r8 ", "jr r8 r9", "jr r08"} {
		wantError(t, "region 1\n"+line+"\nnop\n", 1, api.ErrSyntax)
	}
	for _, line := range []string{"region 0 x", "region 33 01", "region 65536 ", "region 99999 -1", "region 1 1 2 x", "region 1 65536 00", "region 1 1  2", "region 099", "region 0 "} {
		wantError(t, line+"\nnop\n", 0, api.ErrSyntax)
	}
	four := strings.Repeat("region 1\n", 4)
	wantError(t, four+"region x\nnop\n", 4, api.ErrSyntax)
	wantError(t, four+"nop\nregion 1\n", 5, api.ErrSyntax)
	wantError(t, four+"a:\nregion 1\n", 5, api.ErrSyntax)
	many := "region 1\n" + strings.Repeat("nop\n", 64)
	wantError(t, many+"nop x\n", 65, api.ErrSyntax)
	wantError(t, many+"region 1\n", 65, api.ErrSyntax)
}

func TestParseNamesTheFirstWrongLine(t *testing.T) {
	for _, c := range []struct {
		text  string
		index int
		errno api.Errno
	}{
		{"region 0\nx\n", 0, api.ErrRange},
		{"x\nregion 0\n", 0, api.ErrSyntax},
		{"region 1\nli r8 1\nx\n", 1, api.ErrRange},
		{"region 1\nx\nli r8 1\n", 1, api.ErrSyntax},
		{"region 1\nli r8 1\nx", 1, api.ErrRange},
		{"region 1\nnop\nsys 16\nregion 1\na:\n", 2, api.ErrRange},
		{"region 1\njmp none\nli r8 1\n", 2, api.ErrRange},
		{"region 1\njmp none\nx\n", 2, api.ErrSyntax},
		{"jmp none\nnop\nsys 16\n", 2, api.ErrRange},
		{"nop\nx\n", 1, api.ErrSyntax},
		{"nop\nregion 1\n", 1, api.ErrSyntax},
		{"region 1\n" + strings.Repeat("nop\n", 65) + "x\n", 65, api.ErrRange},
	} {
		wantError(t, c.text, c.index, c.errno)
	}
}

func TestParseOfLabelsThatAreNotThere(t *testing.T) {
	for _, jump := range []string{"jmp", "jz r0", "jnz r7", "jal r3"} {
		for _, c := range []struct {
			text  string
			index int
		}{
			{"region 1\n# a\n", 1},
			{"region 1\nnop\n# a\n# b\n", 2},
			{"region 1\na:\n# a\nnop\n# b\n", 4},
			{"region 1\na:\nb:\n# c\nc1:\n# d\n", 3},
			{"region 1\n# b\na:\nnop\n", 1},
			{"region 1\n# l1\nnop\n", 1},
			{"region 1\n# l0\n", 1},
			{"region 1\naa:\n# a\n", 2},
			{"region 1\na:\n# aa\n", 2},
			{"region 1\na0:\n# a00\n", 2},
			{"region 1\nnop\n# nop\n", 2},
			{"region 1\n# region\n", 1},
			{"region 1\n# b\n# a\nb:\nnop\n", 2},
			// The errors that belong to no line come behind it.
			{"# a\n", 0},
			{"nop\n# a\n", 1},
			{"b:\n# a\nb1:\n", 1},
			{"region 1\na:\n# a\n# b\nc:\n", 3},
		} {
			wantError(t, strings.ReplaceAll(c.text, "#", jump), c.index, api.ErrName)
		}
	}
}

// TestParseOfEachByteEverywhere puts each byte in a place where only some may be.
func TestParseOfEachByteEverywhere(t *testing.T) {
	for b := range 256 {
		c := string([]byte{byte(b)})
		letter, digit := b >= 'a' && b <= 'z', b >= '0' && b <= '9'
		for text, permitted := range map[string]bool{
			"region 1\n" + c + ":\nnop\n":               letter,
			"region 1\nq" + c + ":\nnop\n":              letter || digit,
			"region 1\nqqqqqqq" + c + ":\nnop\n":        letter || digit,
			"region 1\nq" + c + "0:\njmp q" + c + "0\n": letter || digit,
			"region 1\nqqqqqqqq" + c + ":\nnop\n":       false,
			"region 1\nli r0 1" + c + "\n":              digit,
			"region 1\nli r0 " + c + "\n":               digit,
			"region 1\nli r" + c + " 1\n":               digit && b < '8',
			"region 1\nli " + c + "1 1\n":               b == 'r',
			"region 1 " + c + "\nnop\n":                 digit,
			"region " + c + "\nnop\n":                   digit && b > '0',
			"region 1" + c + "0\nnop\n":                 b == ' ',
			"region" + c + "1\nnop\n":                   b == ' ',
			"region 1\nmov r1" + c + "r2\n":             b == ' ',
			"region 1\nnop" + c + "nop\n":               b == '\n',
			"region 1\nnop" + c:                         b == '\n',
			"region 1\nq" + c + "\nnop\n":               b == ':',
			"region 1\n" + c + "nop\n":                  false,
			"region 1\nnop\n" + c + "\n":                false,
		} {
			got, lines, errno := assembler.Parse(text)
			if (errno == api.OK) != permitted {
				t.Errorf("Parse(%q): %d", text, errno)
			}
			if errno == api.OK && lines != strings.Count(text, "\n") || errno != api.OK && !same(got, api.Program{}) {
				t.Errorf("Parse(%q) = %+v, %d, %d", text, got, lines, errno)
			}
		}
	}
}

// Consequences

func TestParseOfPrintIsTheProgram(t *testing.T) {
	n := numbers(1)
	for range 3000 {
		p := someProgram(&n)
		text, errno := assembler.Print(p)
		if errno != api.OK {
			t.Fatalf("Print(%+v): %d", p, errno)
		}
		wantProgram(t, text, p)
	}
}

// TestWhatParseReadsIsAProgram changes bytes and lines of texts: what is still
// read then is a program of which there is a text, with labels of its own.
func TestWhatParseReadsIsAProgram(t *testing.T) {
	n := numbers(2)
	for range 300 {
		text, _ := assembler.Print(someProgram(&n))
		for range 40 {
			lines := strings.SplitAfter(text, "\n")
			from, to := n.below(len(lines)), n.below(len(lines))
			lines[from] = lines[to]
			changed := []byte(strings.Join(lines, ""))
			if len(changed) > 0 && n.below(2) == 0 {
				changed[n.below(len(changed))] = " \n:0123456789abijlmnrz"[n.below(21)]
			}
			p, _, errno := assembler.Parse(string(changed))
			if errno != api.OK {
				continue
			}
			printed, errno := assembler.Print(p)
			if errno != api.OK {
				t.Fatalf("Print of %q: %d", changed, errno)
			}
			wantProgram(t, printed, p)
		}
	}
}

// R1

func TestNoArgumentDoesHarm(t *testing.T) {
	text, _ := assembler.Print(greatest())
	for end := range len(text) {
		assembler.Parse(text[:end])
		assembler.Parse(text[end:])
	}
	n := numbers(3)
	for range 20000 {
		b := make([]byte, n.below(60))
		for k := range b {
			b[k] = byte(n.below(256))
		}
		assembler.Parse(string(b))
		assembler.Parse("region 1\n" + string(b) + "\n")
	}
	for _, v := range []int{math.MinInt, -1, 0, 1, 64, 65536, math.MaxInt} {
		assembler.Name(v)
		for op := -1; op < 27; op++ {
			assembler.Print(one(api.Instr{Op: op, A: v, B: v, C: v, Imm: v}))
			assembler.Print(api.Program{Sizes: []int{v}, Data: [][]uint16{nil}, Code: []api.Instr{{Op: op, Imm: v}}})
		}
	}
	assembler.Print(api.Program{Sizes: make([]int, 1000), Data: make([][]uint16, 1000), Code: make([]api.Instr, 1000)})
}

// R2

func TestPrintDoesNotChangeItsArgument(t *testing.T) {
	n := numbers(4)
	for range 100 {
		p := someProgram(&n)
		before := copyOf(p)
		assembler.Print(p)
		if !same(p, before) {
			t.Fatalf("%+v was changed to %+v", before, p)
		}
	}
	for name, p := range refused() {
		before := copyOf(p)
		assembler.Print(p)
		if !same(p, before) {
			t.Errorf("%s: changed to %+v", name, p)
		}
	}
}

func TestNilAndEmptySlicesAreTheSame(t *testing.T) {
	for _, p := range []api.Program{{}, {Code: []api.Instr{}, Sizes: []int{}, Data: [][]uint16{}}, {Code: []api.Instr{{}}, Sizes: []int{}, Data: [][]uint16{}}} {
		if got, errno := assembler.Print(p); errno != api.ErrArg || got != "" {
			t.Errorf("Print(%+v) = %q, %d", p, got, errno)
		}
	}
}

func TestResultsAreNewMemory(t *testing.T) {
	text := "region 3 1 2\nregion 2 3\nregion 4\na:\njmp a\nli r1 5\n"
	want := api.Program{Sizes: []int{3, 2, 4}, Data: [][]uint16{{1, 2}, {3}, nil}, Code: []api.Instr{{Op: 18}, {Op: 1, A: 1, Imm: 5}}}
	first, _, _ := assembler.Parse(text)
	for k := range first.Data {
		// Appending finds out whether the lists share what is behind them.
		first.Data[k] = append(first.Data[k], 7, 7, 7)
	}
	if !slices.Equal(first.Data[0], []uint16{1, 2, 7, 7, 7}) || !slices.Equal(first.Data[1], []uint16{3, 7, 7, 7}) || !slices.Equal(first.Data[2], []uint16{7, 7, 7}) {
		t.Errorf("the lists of data share memory: %v", first.Data)
	}
	first.Sizes[0], first.Data[0][0], first.Code[1].Imm = 9, 9, 9
	wantProgram(t, text, want)
	for op := range 25 {
		assembler.Parse("region 1\n" + names[op] + "\n")
	}
	wantProgram(t, text, want)
}
