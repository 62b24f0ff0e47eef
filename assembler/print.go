package assembler

import (
	"strconv"
	"strings"

	"redundancy/api"
	"redundancy/instr"
	"redundancy/region"
)

// labelPrefix is what the labels of Print have in front of the index.
const labelPrefix = "l"

// Print returns the text of a program, in which the label of the instruction
// with the index k is the letter l and k. ErrArg: p is not a valid program.
func Print(p api.Program) (string, api.Errno) {
	if !validRegions(p.Sizes, p.Data) || !validCode(p.Code, len(p.Sizes)) {
		return "", api.ErrArg
	}
	var text strings.Builder
	for k, size := range p.Sizes {
		writeLine(&text, regionLine(size, p.Data[k]))
	}
	labelled := targets(p.Code)
	for k, i := range p.Code {
		if labelled[k] {
			writeLine(&text, labelPrefix+strconv.Itoa(k)+labelEnd)
		}
		writeLine(&text, instructionLine(i))
	}
	return text.String(), api.OK
}

// validRegions and validCode decide together what Check of chapter 8 accepts:
// that layer is above this one, so that it cannot be asked.
func validRegions(sizes []int, data [][]uint16) bool {
	if !region.Valid(sizes) || len(data) != len(sizes) {
		return false
	}
	for k, size := range sizes {
		if len(data[k]) > size {
			return false
		}
	}
	return true
}

func validCode(code []api.Instr, regions int) bool {
	if len(code) < 1 || len(code) > api.MaxCode {
		return false
	}
	for _, i := range code {
		if !instr.Valid(i) {
			return false
		}
		if takesLabel(i.Op) && i.Imm >= len(code) || i.Op == api.OpLea && i.Imm >= regions {
			return false
		}
	}
	return true
}

// targets says for each instruction of valid code whether a jump names it.
func targets(code []api.Instr) []bool {
	named := make([]bool, len(code))
	for _, i := range code {
		if takesLabel(i.Op) {
			named[i.Imm] = true
		}
	}
	return named
}

func writeLine(text *strings.Builder, line string) {
	text.WriteString(line)
	text.WriteString(lineEnd)
}

func regionLine(size int, data []uint16) string {
	words := []string{regionWord, strconv.Itoa(size)}
	for _, value := range data {
		words = append(words, strconv.Itoa(int(value)))
	}
	return strings.Join(words, gap)
}

func instructionLine(i api.Instr) string {
	words := []string{Name(i.Op)}
	for _, operand := range operations[i.Op].operands {
		words = append(words, prefix(operand)+strconv.Itoa(*field(&i, operand)))
	}
	return strings.Join(words, gap)
}

func prefix(operand rune) string {
	switch operand {
	case operandNumber:
		return ""
	case operandLabel:
		return labelPrefix
	}
	return registerPrefix
}
