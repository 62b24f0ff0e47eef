package instr_test

import (
	"bytes"
	"math"
	"slices"
	"strings"
	"testing"

	"redundancy/api"
	"redundancy/instr"
)

// uses says for each operation from 0 to 24 which fields it uses, I for Imm. It
// is written out here, so that the package is not checked against itself.
var uses = []string{
	"",    // NOP
	"AI",  // LI
	"AB",  // MOV
	"ABC", // ADD
	"ABC", // SUB
	"ABC", // MUL
	"ABC", // DIV
	"ABC", // REM
	"ABC", // AND
	"ABC", // OR
	"ABC", // XOR
	"ABC", // SHL
	"ABC", // SHR
	"ABC", // LT
	"ABC", // EQ
	"AI",  // LEA
	"ABI", // LD
	"ABI", // ST
	"I",   // JMP
	"AI",  // JZ
	"AI",  // JNZ
	"AI",  // JAL
	"A",   // JR
	"I",   // SYS
	"",    // RTI
}

// greatestImm returns the greatest Imm of an operation.
func greatestImm(op int) int {
	switch op {
	case 1, 16, 17: // LI, LD, ST
		return 65535
	case 15: // LEA
		return 3
	case 18, 19, 20, 21: // JMP, JZ, JNZ, JAL
		return 63
	case 23: // SYS
		return 15
	}
	return 0
}

// greatestRegister returns the greatest number in a field A, B or C.
func greatestRegister(op int, field string) int {
	if strings.Contains(uses[op], field) {
		return 7
	}
	return 0
}

// extremes are values that are too small or too great for every field, among
// them those that a narrower integer would take for a permitted one.
var extremes = []int{math.MinInt, math.MinInt + 1, -1 << 32, -65536, -65535, -256, -255, -64, -8, -7, -1, 65536, 65537, 1 << 17, 1 << 31, 1<<32 - 1, 1 << 32, 1<<32 + 1, 1<<48 + 7, math.MaxInt - 1, math.MaxInt}

// values returns what is tried in a field: all small values, the limits, and
// the extremes.
func values() []int {
	list := slices.Clone(extremes)
	for v := range 300 {
		list = append(list, v)
	}
	return append(list, 1000, 32767, 32768, 65279, 65280, 65534, 65535)
}

// someImms returns some of the permitted values of Imm.
func someImms(op int) []int {
	var list []int
	for _, imm := range []int{0, 1, 2, 3, 4, 14, 15, 16, 62, 63, 64, 255, 256, 258, 32768, 65280, 65534, 65535} {
		if imm <= greatestImm(op) {
			list = append(list, imm)
		}
	}
	return list
}

// some returns valid instructions with each operation: all registers, and some
// values of Imm.
func some() []api.Instr {
	var list []api.Instr
	for op := range 25 {
		for a := range greatestRegister(op, "A") + 1 {
			for b := range greatestRegister(op, "B") + 1 {
				for c := range greatestRegister(op, "C") + 1 {
					for _, imm := range someImms(op) {
						list = append(list, api.Instr{Op: op, A: a, B: b, C: c, Imm: imm})
					}
				}
			}
		}
	}
	return list
}

// spoiled returns instructions that are not valid.
func spoiled() []api.Instr {
	return []api.Instr{
		{Op: -1}, {Op: 25}, {Op: 255}, {Op: 256}, {Op: 257, A: 1, Imm: 5}, {Op: 1 << 32}, {Op: math.MinInt}, {Op: math.MaxInt},
		{Op: 0, A: 1}, {Op: 0, B: 1}, {Op: 0, C: 1}, {Op: 0, Imm: 1}, {Op: 0, Imm: 65536},
		{Op: 1, A: 8}, {Op: 1, A: -1}, {Op: 1, A: 257}, {Op: 1, B: 1}, {Op: 1, C: 7}, {Op: 1, Imm: 65536}, {Op: 1, Imm: -1}, {Op: 1, Imm: math.MinInt},
		{Op: 2, A: 1, B: 8}, {Op: 2, A: 1, B: 2, C: 3}, {Op: 3, C: 8}, {Op: 14, A: math.MaxInt}, {Op: 7, A: 1, B: 2, C: 3, Imm: 4},
		{Op: 15, Imm: 4}, {Op: 16, C: 1}, {Op: 17, A: -8}, {Op: 17, Imm: 65536},
		{Op: 18, Imm: 64}, {Op: 18, Imm: -1}, {Op: 18, A: 1, Imm: 2}, {Op: 19, Imm: 64}, {Op: 20, A: 8, Imm: 2}, {Op: 20, Imm: math.MaxInt},
		{Op: 21, Imm: 64}, {Op: 22, A: 8}, {Op: 22, Imm: 1}, {Op: 23, Imm: 16}, {Op: 23, A: 1, Imm: 3}, {Op: 24, A: 1}, {Op: 24, Imm: 1},
	}
}

// P6.1: Valid

func TestValidOperations(t *testing.T) {
	for _, op := range values() {
		if got := instr.Valid(api.Instr{Op: op}); got != (op >= 0 && op <= 24) {
			t.Errorf("operation %d: %v", op, got)
		}
	}
}

func TestValidRegistersOfEachField(t *testing.T) {
	for op := range 25 {
		for _, v := range values() {
			for field, i := range map[string]api.Instr{"A": {Op: op, A: v}, "B": {Op: op, B: v}, "C": {Op: op, C: v}} {
				want := v >= 0 && v <= greatestRegister(op, field)
				if got := instr.Valid(i); got != want {
					t.Errorf("operation %d with %s = %d: %v", op, field, v, got)
				}
			}
		}
	}
}

func TestValidImm(t *testing.T) {
	for op := range 25 {
		for _, v := range values() {
			want := v >= 0 && v <= greatestImm(op)
			if got := instr.Valid(api.Instr{Op: op, Imm: v}); got != want {
				t.Errorf("operation %d with Imm = %d: %v", op, v, got)
			}
		}
	}
}

func TestValidAllFieldsTogether(t *testing.T) {
	for _, i := range some() {
		if !instr.Valid(i) {
			t.Errorf("%+v is valid", i)
		}
	}
	for _, i := range spoiled() {
		if instr.Valid(i) {
			t.Errorf("%+v is not valid", i)
		}
	}
}

func TestValidNeedsEachFieldWhateverTheOthersAre(t *testing.T) {
	for op := range 25 {
		most := api.Instr{Op: op, A: greatestRegister(op, "A"), B: greatestRegister(op, "B"), C: greatestRegister(op, "C"), Imm: greatestImm(op)}
		if !instr.Valid(most) {
			t.Errorf("%+v is valid", most)
		}
		for _, change := range []int{1, math.MaxInt - 70000} {
			a, b, c, imm := most, most, most, most
			a.A += change
			b.B += change
			c.C += change
			imm.Imm += change
			for _, i := range []api.Instr{a, b, c, imm} {
				if instr.Valid(i) {
					t.Errorf("%+v is not valid", i)
				}
			}
		}
		a, b, c, imm := most, most, most, most
		a.A, b.B, c.C, imm.Imm = -1, -1, -1, -1
		for _, i := range []api.Instr{a, b, c, imm} {
			if instr.Valid(i) {
				t.Errorf("%+v is not valid", i)
			}
		}
	}
}

// P6.1: Encode

func TestEncodeExamples(t *testing.T) {
	for _, c := range []struct {
		i    api.Instr
		want []byte
	}{
		{api.Instr{}, []byte{0, 0, 0, 0, 0, 0}},
		{api.Instr{Op: api.OpLI, A: 1, Imm: 258}, []byte{1, 1, 0, 0, 1, 2}},
		{api.Instr{Op: api.OpLI, A: 7, Imm: 65535}, []byte{1, 7, 0, 0, 255, 255}},
		{api.Instr{Op: api.OpLI, Imm: 255}, []byte{1, 0, 0, 0, 0, 255}},
		{api.Instr{Op: api.OpLI, Imm: 256}, []byte{1, 0, 0, 0, 1, 0}},
		{api.Instr{Op: api.OpLI, Imm: 32768}, []byte{1, 0, 0, 0, 128, 0}},
		{api.Instr{Op: api.OpMov, A: 3, B: 4}, []byte{2, 3, 4, 0, 0, 0}},
		{api.Instr{Op: api.OpAdd, A: 5, B: 6, C: 7}, []byte{3, 5, 6, 7, 0, 0}},
		{api.Instr{Op: api.OpEq, A: 1, B: 2, C: 3}, []byte{14, 1, 2, 3, 0, 0}},
		{api.Instr{Op: api.OpLea, A: 2, Imm: 3}, []byte{15, 2, 0, 0, 0, 3}},
		{api.Instr{Op: api.OpLd, A: 1, B: 2, Imm: 772}, []byte{16, 1, 2, 0, 3, 4}},
		{api.Instr{Op: api.OpSt, A: 2, B: 1, Imm: 65280}, []byte{17, 2, 1, 0, 255, 0}},
		{api.Instr{Op: api.OpJmp, Imm: 63}, []byte{18, 0, 0, 0, 0, 63}},
		{api.Instr{Op: api.OpJr, A: 7}, []byte{22, 7, 0, 0, 0, 0}},
		{api.Instr{Op: api.OpSys, Imm: 15}, []byte{23, 0, 0, 0, 0, 15}},
		{api.Instr{Op: api.OpRti}, []byte{24, 0, 0, 0, 0, 0}},
	} {
		if got, errno := instr.Encode(c.i); errno != api.OK || !bytes.Equal(got, c.want) {
			t.Errorf("Encode(%+v) = %v, %d, want %v", c.i, got, errno, c.want)
		}
	}
}

func TestEncodeWritesEachFieldInItsPlace(t *testing.T) {
	for _, i := range some() {
		got, errno := instr.Encode(i)
		if errno != api.OK || len(got) != 6 {
			t.Fatalf("Encode(%+v) = %v, %d", i, got, errno)
		}
		imm := 256*int(got[4]) + int(got[5])
		if int(got[0]) != i.Op || int(got[1]) != i.A || int(got[2]) != i.B || int(got[3]) != i.C || imm != i.Imm {
			t.Errorf("Encode(%+v) = %v", i, got)
		}
	}
}

func TestEncodeOfWhatIsNotValid(t *testing.T) {
	for _, i := range spoiled() {
		if got, errno := instr.Encode(i); errno != api.ErrArg || len(got) != 0 {
			t.Errorf("Encode(%+v) = %v, %d", i, got, errno)
		}
	}
}

// P6.1: Decode

func TestDecodeIsTheInverseOfEncode(t *testing.T) {
	for _, i := range some() {
		encoded, _ := instr.Encode(i)
		if got, errno := instr.Decode(encoded); errno != api.OK || got != i {
			t.Errorf("Decode(%v) = %+v, %d, want %+v", encoded, got, errno, i)
		}
	}
}

// TestDecodeTakesOnlyWhatEncodeWrites tries every operation and every register
// byte up to one that is too great, and each byte alone with all its values.
func TestDecodeTakesOnlyWhatEncodeWrites(t *testing.T) {
	var tried [][]byte
	for op := range 27 {
		for registers := range 9 * 9 * 9 {
			for _, imm := range []int{0, 1, 3, 4, 15, 16, 63, 64, 256, 65535} {
				tried = append(tried, []byte{byte(op), byte(registers / 81), byte(registers / 9 % 9), byte(registers % 9), byte(imm / 256), byte(imm % 256)})
			}
		}
	}
	for op := range 256 {
		for place := 1; place < 6; place++ {
			for v := range 256 {
				b := []byte{byte(op), 0, 0, 0, 0, 0}
				b[place] = byte(v)
				tried = append(tried, b)
			}
		}
	}
	for _, b := range tried {
		want := api.Instr{Op: int(b[0]), A: int(b[1]), B: int(b[2]), C: int(b[3]), Imm: 256*int(b[4]) + int(b[5])}
		wantErrno := api.OK
		if want.Op > 24 || want.A > greatestRegister(want.Op, "A") || want.B > greatestRegister(want.Op, "B") || want.C > greatestRegister(want.Op, "C") || want.Imm > greatestImm(want.Op) {
			want, wantErrno = api.Instr{}, api.ErrForm
		}
		if got, errno := instr.Decode(b); got != want || errno != wantErrno {
			t.Errorf("Decode(%v) = %+v, %d, want %+v, %d", b, got, errno, want, wantErrno)
		}
	}
}

func TestDecodeNeedsSixBytes(t *testing.T) {
	for n := range 20 {
		want := api.OK
		if n < 6 {
			want = api.ErrShort
		} else if n > 6 {
			want = api.ErrForm
		}
		nops := make([]byte, n)
		if got, errno := instr.Decode(nops); errno != want || got != (api.Instr{}) {
			t.Errorf("%d bytes: %+v, %d", n, got, errno)
		}
		valid := append([]byte{1, 1, 0, 0, 1, 2}, nops...)[:n]
		wantInstr := api.Instr{}
		if n == 6 {
			wantInstr = api.Instr{Op: 1, A: 1, Imm: 258}
		}
		if got, errno := instr.Decode(valid); errno != want || got != wantInstr {
			t.Errorf("%d bytes, LI: %+v, %d", n, got, errno)
		}
	}
	if got, errno := instr.Decode(nil); errno != api.ErrShort || got != (api.Instr{}) {
		t.Errorf("nil: %+v, %d", got, errno)
	}
}

func TestDecodeNamesTheFirstError(t *testing.T) {
	for n := range 12 {
		want := api.ErrForm
		if n < 6 {
			want = api.ErrShort
		}
		// No byte is one that an instruction could have there.
		if got, errno := instr.Decode(bytes.Repeat([]byte{255}, n)); errno != want || got != (api.Instr{}) {
			t.Errorf("%d bytes: %+v, %d", n, got, errno)
		}
	}
}

// P6.2: Branch

func TestBranch(t *testing.T) {
	branches := map[int]bool{18: true, 19: true, 20: true, 21: true, 22: true, 24: true}
	for _, op := range values() {
		if got := instr.Branch(op); got != branches[op] {
			t.Errorf("operation %d: %v", op, got)
		}
	}
}

// P6.2: Targets

func TestTargetsExamples(t *testing.T) {
	for _, c := range []struct {
		i    api.Instr
		pc   int
		want []int
	}{
		{api.Instr{Op: api.OpJmp, Imm: 9}, 4, []int{9}},
		{api.Instr{Op: api.OpJmp}, 4, []int{0}},
		{api.Instr{Op: api.OpJmp, Imm: 4}, 4, []int{4}},
		{api.Instr{Op: api.OpJal, A: 3, Imm: 2}, 4, []int{2}},
		{api.Instr{Op: api.OpJal, Imm: 63}, 63, []int{63}},
		{api.Instr{Op: api.OpJz, A: 1, Imm: 9}, 4, []int{5, 9}},
		{api.Instr{Op: api.OpJz, A: 1, Imm: 2}, 4, []int{2, 5}},
		{api.Instr{Op: api.OpJz, A: 1, Imm: 5}, 4, []int{5}},
		{api.Instr{Op: api.OpJz, A: 1, Imm: 4}, 4, []int{4, 5}},
		{api.Instr{Op: api.OpJz, A: 1, Imm: 6}, 4, []int{5, 6}},
		{api.Instr{Op: api.OpJnz, A: 7, Imm: 63}, 0, []int{1, 63}},
		{api.Instr{Op: api.OpJnz, A: 7, Imm: 0}, 63, []int{0, 64}},
		{api.Instr{Op: api.OpJnz, A: 7, Imm: 1}, 0, []int{1}},
		{api.Instr{Op: api.OpJr, A: 5}, 4, nil},
		{api.Instr{Op: api.OpRti}, 4, nil},
		{api.Instr{Op: api.OpNop}, 4, []int{5}},
		{api.Instr{Op: api.OpNop}, 0, []int{1}},
		{api.Instr{Op: api.OpLI, A: 1, Imm: 9}, 4, []int{5}},
		{api.Instr{Op: api.OpLea, A: 1, Imm: 2}, 4, []int{5}},
		{api.Instr{Op: api.OpSt, A: 1, B: 2, Imm: 9}, 4, []int{5}},
		{api.Instr{Op: api.OpSys, Imm: 0}, 4, []int{5}},
		{api.Instr{Op: api.OpSys, Imm: 10}, 63, []int{64}},
	} {
		if got := instr.Targets(c.i, c.pc); !slices.Equal(got, c.want) {
			t.Errorf("Targets(%+v, %d) = %v, want %v", c.i, c.pc, got, c.want)
		}
	}
}

// wantTargets returns the targets of a valid instruction, for a pc that has a
// next one.
func wantTargets(i api.Instr, pc int) []int {
	next := pc + 1
	switch i.Op {
	case 18, 21: // JMP, JAL
		return []int{i.Imm}
	case 19, 20: // JZ, JNZ
		if i.Imm < next {
			return []int{i.Imm, next}
		}
		if next < i.Imm {
			return []int{next, i.Imm}
		}
	case 22, 24: // JR, RTI
		return nil
	}
	return []int{next}
}

func TestTargetsOfEachInstructionEverywhere(t *testing.T) {
	pcs := []int{math.MinInt, math.MinInt + 1, -1 << 32, -65536, 1000, 65535, 65536, 1<<32 - 1, 1 << 32, math.MaxInt - 1}
	for pc := -5; pc <= 70; pc++ {
		pcs = append(pcs, pc)
	}
	for _, i := range some() {
		for _, pc := range pcs {
			if got, want := instr.Targets(i, pc), wantTargets(i, pc); !slices.Equal(got, want) {
				t.Fatalf("Targets(%+v, %d) = %v, want %v", i, pc, got, want)
			}
		}
	}
}

// TestTargetsBehindTheGreatestInt needs exact arithmetic (R6): a sum that wraps
// around is not pc + 1.
func TestTargetsBehindTheGreatestInt(t *testing.T) {
	for _, i := range some() {
		var want []int
		if i.Op >= 18 && i.Op <= 21 {
			want = []int{i.Imm}
		}
		if got := instr.Targets(i, math.MaxInt); !slices.Equal(got, want) {
			t.Fatalf("Targets(%+v) = %v, want %v", i, got, want)
		}
	}
}

func TestTargetsOfWhatIsNotValid(t *testing.T) {
	for _, i := range spoiled() {
		for _, pc := range []int{math.MinInt, -1, 0, 4, 63, math.MaxInt} {
			if got := instr.Targets(i, pc); len(got) != 0 {
				t.Errorf("Targets(%+v, %d) = %v", i, pc, got)
			}
		}
	}
}

// Consequences

func TestDifferentInstructionsHaveDifferentBytes(t *testing.T) {
	seen := map[string]api.Instr{}
	for _, i := range some() {
		encoded, _ := instr.Encode(i)
		if other, ok := seen[string(encoded)]; ok {
			t.Errorf("%+v and %+v are both %v", i, other, encoded)
		}
		seen[string(encoded)] = i
	}
}

// R1

func TestNoArgumentDoesHarm(t *testing.T) {
	for _, op := range values() {
		instr.Branch(op)
		for _, v := range extremes {
			i := api.Instr{Op: op, A: v, B: v, C: v, Imm: v}
			instr.Valid(i)
			instr.Encode(i)
			instr.Targets(i, v)
			instr.Targets(api.Instr{Op: op, Imm: v}, -v)
		}
	}
	for n := range 300 {
		for _, v := range []byte{0, 1, 24, 25, 128, 255} {
			instr.Decode(bytes.Repeat([]byte{v}, n))
		}
	}
}

// R2

func TestDecodeDoesNotChangeItsArgument(t *testing.T) {
	b := []byte{1, 1, 0, 0, 1, 2, 9, 9}
	for n := range len(b) + 1 {
		instr.Decode(b[:n])
		if !bytes.Equal(b, []byte{1, 1, 0, 0, 1, 2, 9, 9}) {
			t.Fatalf("after Decode of %d bytes: %v", n, b)
		}
	}
}

func TestResultsAreNewMemory(t *testing.T) {
	for _, i := range some() {
		encoded, _ := instr.Encode(i)
		for k := range encoded {
			encoded[k] = ^encoded[k]
		}
		targets := instr.Targets(i, 4)
		for k := range targets {
			targets[k] = -7
		}
		again, _ := instr.Encode(i)
		if got, errno := instr.Decode(again); errno != api.OK || got != i {
			t.Fatalf("%+v: Encode keeps what was changed: %v", i, again)
		}
		if got := instr.Targets(i, 4); !slices.Equal(got, wantTargets(i, 4)) {
			t.Fatalf("%+v: Targets keeps what was changed: %v", i, got)
		}
	}
}
