package assembler

import (
	"strings"

	"redundancy/api"
	"redundancy/instr"
)

const (
	maxLabel = 8
	lastWord = 65535
	// tooGreat stands for all numbers that no word is: these may have any length.
	tooGreat = lastWord + 1
	// noLine is the index of an error that belongs to no line.
	noLine = -1
)

// reading is what has been read of a text so far.
type reading struct {
	program api.Program
	// labels has for each label the index of the instruction behind it.
	labels map[string]int
	// jumps are the instructions whose labels are still to be looked up: these
	// may stand further below.
	jumps []jump
}

// jump is an instruction with a label: where it is in the text and in the code.
type jump struct {
	line, index int
	label       string
}

// Parse returns the program of a text and the number of its lines; with an error
// the index of the line that is wrong, -1 if it belongs to none.
func Parse(s string) (api.Program, int, api.Errno) {
	if len(s) > api.MaxText {
		return api.Program{}, noLine, api.ErrLimit
	}
	lines := strings.Split(s, lineEnd)
	// What is behind the last line end is empty, or a line that has no end.
	ended := len(lines) - 1
	r := reading{labels: map[string]int{}}
	for n, line := range lines[:ended] {
		if errno := r.addLine(n, line); errno != api.OK {
			return api.Program{}, n, errno
		}
	}
	if lines[ended] != "" {
		return api.Program{}, ended, api.ErrSyntax
	}
	if n, errno := r.resolveJumps(); errno != api.OK {
		return api.Program{}, n, errno
	}
	if !r.complete() {
		return api.Program{}, noLine, api.ErrSyntax
	}
	return r.program, ended, api.OK
}

func (r *reading) addLine(n int, line string) api.Errno {
	if label, ok := strings.CutSuffix(line, labelEnd); ok {
		return r.addLabel(label)
	}
	words := strings.Split(line, gap)
	if words[0] == regionWord {
		return r.addRegion(words[1:])
	}
	return r.addInstruction(n, words)
}

func (r *reading) addLabel(label string) api.Errno {
	_, known := r.labels[label]
	if known || !isLabel(label) {
		return api.ErrSyntax
	}
	r.labels[label] = len(r.program.Code)
	return api.OK
}

// addRegion adds the region with the size and the data that words has.
func (r *reading) addRegion(words []string) api.Errno {
	numbers, ok := numbersOf(words)
	if !ok || len(numbers) == 0 || len(r.program.Code) > 0 || len(r.labels) > 0 {
		return api.ErrSyntax
	}
	size, values := numbers[0], numbers[1:]
	if len(r.program.Sizes) == api.MaxRegions || size < 1 || size > api.MaxSize || len(values) > size {
		return api.ErrRange
	}
	data := make([]uint16, len(values))
	for k, value := range values {
		if value > lastWord {
			return api.ErrRange
		}
		data[k] = uint16(value)
	}
	r.program.Sizes = append(r.program.Sizes, size)
	r.program.Data = append(r.program.Data, data)
	return api.OK
}

func (r *reading) addInstruction(n int, words []string) api.Errno {
	i, label, ok := instructionOf(words)
	if !ok {
		return api.ErrSyntax
	}
	if len(r.program.Code) == api.MaxCode || !instr.Valid(i) || i.Op == api.OpLea && i.Imm >= len(r.program.Sizes) {
		return api.ErrRange
	}
	if takesLabel(i.Op) {
		r.jumps = append(r.jumps, jump{line: n, index: len(r.program.Code), label: label})
	}
	r.program.Code = append(r.program.Code, i)
	return api.OK
}

// resolveJumps puts the targets into the instructions that have labels. With an
// error it returns the line of the first one whose label is not there.
func (r *reading) resolveJumps() (int, api.Errno) {
	for _, j := range r.jumps {
		target, known := r.labels[j.label]
		if !known {
			return j.line, api.ErrName
		}
		r.program.Code[j.index].Imm = target
	}
	return 0, api.OK
}

// complete reports whether there are regions and instructions, and one of these
// behind each label.
func (r *reading) complete() bool {
	for _, target := range r.labels {
		if target == len(r.program.Code) {
			return false
		}
	}
	return len(r.program.Sizes) > 0 && len(r.program.Code) > 0
}

// instructionOf returns the instruction that a name and operands form, its label
// if it has one instead of Imm, and whether they are written as they have to be.
// The numbers may be such that the instruction is not valid.
func instructionOf(words []string) (i api.Instr, label string, ok bool) {
	op, known := operationNamed(words[0])
	if !known || len(words)-1 != len(operations[op].operands) {
		return api.Instr{}, "", false
	}
	i.Op = op
	for k, operand := range operations[op].operands {
		word := words[k+1]
		if operand == operandLabel {
			label, ok = word, isLabel(word)
		} else {
			*field(&i, operand), ok = operandOf(operand, word)
		}
		if !ok {
			return api.Instr{}, "", false
		}
	}
	return i, label, true
}

// operandOf returns the number in a word, which is that of a register unless the
// operand is a number itself.
func operandOf(operand rune, word string) (int, bool) {
	if operand == operandNumber {
		return numberOf(word)
	}
	digits, ok := strings.CutPrefix(word, registerPrefix)
	if !ok {
		return 0, false
	}
	return numberOf(digits)
}

func isLabel(word string) bool {
	if len(word) < 1 || len(word) > maxLabel || !isLetter(word[0]) {
		return false
	}
	for _, c := range []byte(word) {
		if !isLetter(c) && !isDigit(c) {
			return false
		}
	}
	return true
}

func isLetter(c byte) bool { return c >= 'a' && c <= 'z' }

func isDigit(c byte) bool { return c >= '0' && c <= '9' }

func numbersOf(words []string) ([]int, bool) {
	numbers := make([]int, len(words))
	for k, word := range words {
		number, ok := numberOf(word)
		if !ok {
			return nil, false
		}
		numbers[k] = number
	}
	return numbers, true
}

// numberOf returns the number that a word is, tooGreat for each that is beyond
// lastWord, and whether the word is a number.
func numberOf(word string) (int, bool) {
	if word == "" || word[0] == '0' && len(word) > 1 {
		return 0, false
	}
	number := 0
	for _, c := range []byte(word) {
		if !isDigit(c) {
			return 0, false
		}
		number = min(number*10+int(c-'0'), tooGreat)
	}
	return number, true
}
