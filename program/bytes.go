package program

import (
	"slices"

	"redundancy/api"
	"redundancy/instr"
	"redundancy/word"
)

const (
	wordBytes  = 2
	instrBytes = 6
)

// Encode returns the bytes of a program. Errors: those of Check.
func Encode(p api.Program) ([]byte, api.Errno) {
	if errno := Check(p); errno != api.OK {
		return nil, errno
	}
	// Check has seen to it that each number fits into a byte, and that each
	// instruction has bytes.
	b := []byte{byte(len(p.Sizes))}
	for r, size := range p.Sizes {
		b = append(b, byte(size), byte(len(p.Data[r])))
		b = append(b, word.Bytes(p.Data[r])...)
	}
	b = append(b, byte(len(p.Code)))
	for _, i := range p.Code {
		encoded, _ := instr.Encode(i)
		b = append(b, encoded...)
	}
	return b, api.OK
}

// Decode is the inverse of Encode. ErrShort: the bytes end too early. ErrForm:
// bytes are left, or an instruction cannot be decoded. Then those of Check.
func Decode(b []byte) (api.Program, api.Errno) {
	in := reader{left: b}
	sizes, data := in.regions()
	code := in.take(instrBytes * in.number())
	if in.short {
		return api.Program{}, api.ErrShort
	}
	if len(in.left) > 0 {
		return api.Program{}, api.ErrForm
	}
	instructions, errno := decodeCode(code)
	if errno != api.OK {
		return api.Program{}, errno
	}
	p := api.Program{Code: instructions, Sizes: sizes, Data: data}
	if errno := Check(p); errno != api.OK {
		return api.Program{}, errno
	}
	return p, api.OK
}

// decodeCode decodes whole instructions. ErrForm: one of them is none.
func decodeCode(b []byte) ([]api.Instr, api.Errno) {
	var code []api.Instr
	for encoded := range slices.Chunk(b, instrBytes) {
		i, errno := instr.Decode(encoded)
		if errno != api.OK {
			return nil, api.ErrForm
		}
		code = append(code, i)
	}
	return code, api.OK
}

// reader takes bytes from the front of those that are left. Whoever needs more
// than are left gets none, and so does everyone behind: that the bytes have
// ended too early comes before all that may be wrong with them, so that it is
// enough to ask for it once, at the end.
type reader struct {
	left  []byte
	short bool
}

func (in *reader) take(n int) []byte {
	if n > len(in.left) {
		in.left, in.short = nil, true
		return nil
	}
	taken := in.left[:n]
	in.left = in.left[n:]
	return taken
}

// number takes a number of one byte, 0 if none is left.
func (in *reader) number() int {
	taken := in.take(1)
	if in.short {
		return 0
	}
	return int(taken[0])
}

// regions takes the sizes and data of all regions, whether they are permitted
// or not: Check decides that later.
func (in *reader) regions() ([]int, [][]uint16) {
	var sizes []int
	var data [][]uint16
	for range in.number() {
		sizes = append(sizes, in.number())
		data = append(data, in.words(in.number()))
	}
	return sizes, data
}

func (in *reader) words(n int) []uint16 {
	// There is no error: the number of bytes is even.
	words, _ := word.Words(in.take(wordBytes * n))
	return words
}
