package word_test

import (
	"math"
	"slices"
	"strconv"
	"strings"
	"testing"

	"redundancy/api"
	"redundancy/word"
)

func num(v uint16) api.Cell    { return api.Cell{Tag: api.Num, Val: v} }
func ptr(v uint16) api.Cell    { return api.Cell{Tag: api.Ptr, Val: v} }
func handle(v uint16) api.Cell { return api.Cell{Tag: api.Handle, Val: v} }

// P1.1

func TestValidKnowsExactlyThreeTags(t *testing.T) {
	for tag := range 256 {
		want := tag == 0 || tag == 1 || tag == 2
		for _, v := range []uint16{0, 1, 3, 32768, 65535} {
			if got := word.Valid(api.Cell{Tag: uint8(tag), Val: v}); got != want {
				t.Errorf("Valid(tag %d, value %d) = %v", tag, v, got)
			}
		}
	}
}

func TestFlipInvertsTheBitWithThatValue(t *testing.T) {
	for _, c := range []struct {
		v    uint16
		bit  int
		want uint16
	}{
		{0, 3, 8},
		{8, 3, 0},
		{0, 0, 1},
		{0, 15, 32768},
		{65535, 15, 32767},
		{65535, 0, 65534},
		{0, 16, 1},
		{0, 31, 32768},
		{0, 32, 1},
		{0, -1, 32768},
		{5, -1, 32773},
		{0, -15, 2},
		{0, -16, 1},
		{0, -17, 32768},
		{0, math.MaxInt, 32768},
		{0, math.MaxInt - 15, 1},
		{0, math.MinInt, 1},
		{0, math.MinInt + 3, 8},
	} {
		if got := word.Flip(c.v, c.bit); got != c.want {
			t.Errorf("Flip(%d, %d) = %d, want %d", c.v, c.bit, got, c.want)
		}
	}
}

func TestFlipIsPeriodicInTheBit(t *testing.T) {
	for _, v := range []uint16{0, 1, 0x5a5a, 65535} {
		for bit := range 16 {
			want := word.Flip(v, bit)
			for round := -70; round <= 70; round++ {
				if got := word.Flip(v, bit+16*round); got != want {
					t.Errorf("Flip(%d, %d) = %d, want %d", v, bit+16*round, got, want)
				}
			}
		}
	}
}

func TestFlipTwiceIsNothingAndOnceADistanceOf1(t *testing.T) {
	for _, v := range []uint16{0, 1, 0x1234, 32768, 65535} {
		for _, bit := range []int{math.MinInt, -33, -1, 0, 1, 7, 8, 15, 16, 1000, math.MaxInt} {
			once := word.Flip(v, bit)
			if got := word.Flip(once, bit); got != v {
				t.Errorf("Flip(Flip(%d, %d)) = %d", v, bit, got)
			}
			if got := word.Distance([]api.Cell{num(v)}, []api.Cell{num(once)}); got != 1 {
				t.Errorf("distance of Flip(%d, %d) = %d", v, bit, got)
			}
		}
	}
}

func TestOnesOfEveryWord(t *testing.T) {
	for v := range 1 << 16 {
		want := strings.Count(strconv.FormatInt(int64(v), 2), "1")
		if got := word.Ones(uint16(v)); got != want {
			t.Errorf("Ones(%d) = %d, want %d", v, got, want)
		}
	}
}

func TestSame(t *testing.T) {
	for _, c := range []struct {
		name string
		a, b []api.Cell
		want bool
	}{
		{"nil and nil", nil, nil, true},
		{"nil and empty", nil, []api.Cell{}, true},
		{"empty and nil", []api.Cell{}, nil, true},
		{"empty and empty", []api.Cell{}, []api.Cell{}, true},
		{"equal", []api.Cell{num(7), ptr(8)}, []api.Cell{num(7), ptr(8)}, true},
		{"equal with an invalid tag", []api.Cell{{Tag: 9, Val: 1}}, []api.Cell{{Tag: 9, Val: 1}}, true},
		{"nil and a zero cell", nil, []api.Cell{{}}, false},
		{"a zero cell and empty", []api.Cell{{}}, []api.Cell{}, false},
		{"beginning", []api.Cell{num(7)}, []api.Cell{num(7), num(8)}, false},
		{"longer", []api.Cell{num(7), num(8)}, []api.Cell{num(7)}, false},
		{"another order", []api.Cell{num(7), num(8)}, []api.Cell{num(8), num(7)}, false},
		{"another tag", []api.Cell{num(7), num(8)}, []api.Cell{num(7), ptr(8)}, false},
		{"another invalid tag", []api.Cell{{Tag: 9}}, []api.Cell{{Tag: 8}}, false},
		{"another value", []api.Cell{num(7), num(8)}, []api.Cell{num(6), num(8)}, false},
		{"another high byte", []api.Cell{num(0x0107)}, []api.Cell{num(0x0207)}, false},
	} {
		if got := word.Same(c.a, c.b); got != c.want {
			t.Errorf("%s: %v", c.name, got)
		}
	}
}

// P1.2

func TestDistance(t *testing.T) {
	for _, c := range []struct {
		name string
		a, b []api.Cell
		want int
	}{
		{"nil and nil", nil, nil, 0},
		{"nil and empty", nil, []api.Cell{}, 0},
		{"equal", []api.Cell{num(7), ptr(8)}, []api.Cell{num(7), ptr(8)}, 0},
		{"one bit", []api.Cell{num(7)}, []api.Cell{num(5)}, 1},
		{"highest bit", []api.Cell{num(0)}, []api.Cell{num(32768)}, 1},
		{"all bits", []api.Cell{num(0)}, []api.Cell{num(65535)}, 16},
		{"bits of both", []api.Cell{num(0x0f00)}, []api.Cell{num(0x00f0)}, 8},
		{"tags next to each other", []api.Cell{num(7)}, []api.Cell{ptr(7)}, 1},
		{"tags that differ in two bits", []api.Cell{ptr(7)}, []api.Cell{handle(7)}, 1},
		{"invalid tags that differ in many bits", []api.Cell{{Tag: 0}}, []api.Cell{{Tag: 255}}, 1},
		{"equal invalid tags", []api.Cell{{Tag: 9, Val: 1}}, []api.Cell{{Tag: 9, Val: 2}}, 2},
		{"tag and all bits", []api.Cell{num(0)}, []api.Cell{handle(65535)}, 17},
		{"sum over places", []api.Cell{num(1), ptr(3), num(0)}, []api.Cell{num(2), num(3), num(7)}, 6},
		{"a place at the end is missing", []api.Cell{num(7)}, []api.Cell{num(7), num(0)}, 17},
		{"missing places and differences", []api.Cell{num(7), num(8)}, []api.Cell{ptr(7), num(11), num(1)}, 1 + 2 + 17},
		{"value of the missing place", []api.Cell{num(7)}, []api.Cell{num(7), handle(65535)}, 17},
		{"nil and three", nil, []api.Cell{num(0), num(0), num(0)}, 51},
		{"places are not moved", []api.Cell{num(1), num(2)}, []api.Cell{num(2)}, 2 + 17},
	} {
		if got := word.Distance(c.a, c.b); got != c.want {
			t.Errorf("%s: %d, want %d", c.name, got, c.want)
		}
		if got := word.Distance(c.b, c.a); got != c.want {
			t.Errorf("%s, exchanged: %d, want %d", c.name, got, c.want)
		}
	}
}

// allLists returns every list of at most two of the cells.
func allLists(cells []api.Cell) [][]api.Cell {
	lists := [][]api.Cell{nil}
	for _, first := range cells {
		lists = append(lists, []api.Cell{first})
		for _, second := range cells {
			lists = append(lists, []api.Cell{first, second})
		}
	}
	return lists
}

func TestDistanceIsAMetric(t *testing.T) {
	lists := allLists([]api.Cell{num(0), num(1), num(65535), ptr(1), handle(65535), {Tag: 7, Val: 0x5555}})
	for _, a := range lists {
		for _, b := range lists {
			direct := word.Distance(a, b)
			if (direct == 0) != slices.Equal(a, b) || (direct == 0) != word.Same(a, b) {
				t.Errorf("%v and %v: distance %d, Same %v", a, b, direct, word.Same(a, b))
			}
			if back := word.Distance(b, a); direct < 0 || back != direct {
				t.Errorf("%v and %v: %d there, %d back", a, b, direct, back)
			}
			for _, between := range lists {
				if detour := word.Distance(a, between) + word.Distance(between, b); direct > detour {
					t.Errorf("from %v to %v: %d, but over %v: %d", a, b, direct, between, detour)
				}
			}
		}
	}
}

// P1.3

func TestBytes(t *testing.T) {
	for _, c := range []struct {
		words []uint16
		want  []byte
	}{
		{nil, nil},
		{[]uint16{}, nil},
		{[]uint16{0}, []byte{0, 0}},
		{[]uint16{1}, []byte{0, 1}},
		{[]uint16{256}, []byte{1, 0}},
		{[]uint16{258, 65535, 0}, []byte{1, 2, 255, 255, 0, 0}},
		{[]uint16{0x1234, 0xabcd}, []byte{0x12, 0x34, 0xab, 0xcd}},
	} {
		if got := word.Bytes(c.words); !slices.Equal(got, c.want) {
			t.Errorf("Bytes(%v) = %v, want %v", c.words, got, c.want)
		}
	}
}

func TestWords(t *testing.T) {
	for _, c := range []struct {
		bytes []byte
		want  []uint16
		errno api.Errno
	}{
		{nil, nil, api.OK},
		{[]byte{}, nil, api.OK},
		{[]byte{0, 0}, []uint16{0}, api.OK},
		{[]byte{0, 1}, []uint16{1}, api.OK},
		{[]byte{1, 0}, []uint16{256}, api.OK},
		{[]byte{1, 2, 255, 255, 0, 0}, []uint16{258, 65535, 0}, api.OK},
		{[]byte{0x12, 0x34, 0xab, 0xcd}, []uint16{0x1234, 0xabcd}, api.OK},
		{[]byte{0}, nil, api.ErrForm},
		{[]byte{255}, nil, api.ErrForm},
		{[]byte{1, 2, 3}, nil, api.ErrForm},
		{[]byte{1, 2, 255, 255, 0}, nil, api.ErrForm},
	} {
		got, errno := word.Words(c.bytes)
		if !slices.Equal(got, c.want) || errno != c.errno {
			t.Errorf("Words(%v) = %v, %d, want %v, %d", c.bytes, got, errno, c.want, c.errno)
		}
	}
}

func TestWordsOfAnOddNumberOfBytesIsErrForm(t *testing.T) {
	for length := range 200 {
		got, errno := word.Words(make([]byte, length))
		switch {
		case length%2 == 1 && (errno != api.ErrForm || len(got) != 0):
			t.Errorf("%d bytes: %v, %d", length, got, errno)
		case length%2 == 0 && (errno != api.OK || len(got) != length/2):
			t.Errorf("%d bytes: %d words, %d", length, len(got), errno)
		}
	}
}

func TestWordsAndBytesAreInverses(t *testing.T) {
	every := make([]uint16, 1<<16)
	for v := range every {
		every[v] = uint16(v)
	}
	encoded := word.Bytes(every)
	if decoded, errno := word.Words(encoded); errno != api.OK || !slices.Equal(decoded, every) {
		t.Error("Words(Bytes(l)) is not l", errno)
	}
	for _, b := range [][]byte{nil, {9, 1}, encoded} {
		decoded, errno := word.Words(b)
		if errno != api.OK || !slices.Equal(word.Bytes(decoded), b) {
			t.Errorf("Bytes(Words(%d bytes)) is not the same, %d", len(b), errno)
		}
	}
}

func TestNumbers(t *testing.T) {
	for _, c := range []struct {
		words []uint16
		want  []api.Cell
	}{
		{nil, nil},
		{[]uint16{}, nil},
		{[]uint16{0}, []api.Cell{{Tag: 0, Val: 0}}},
		{[]uint16{7, 8, 65535, 7}, []api.Cell{{Tag: 0, Val: 7}, {Tag: 0, Val: 8}, {Tag: 0, Val: 65535}, {Tag: 0, Val: 7}}},
	} {
		if got := word.Numbers(c.words); !slices.Equal(got, c.want) {
			t.Errorf("Numbers(%v) = %v, want %v", c.words, got, c.want)
		}
	}
}

// R2

func TestArgumentsAreNotChanged(t *testing.T) {
	words, bytes := []uint16{258, 0, 65535}, []byte{1, 2, 0, 0, 255, 255}
	a, b := []api.Cell{num(1), ptr(2)}, []api.Cell{handle(3)}
	word.Bytes(words)
	word.Numbers(words)
	word.Words(bytes)
	word.Words(bytes[:3])
	word.Distance(a, b)
	word.Same(a, b)
	if !slices.Equal(words, []uint16{258, 0, 65535}) {
		t.Error("words", words)
	}
	if !slices.Equal(bytes, []byte{1, 2, 0, 0, 255, 255}) {
		t.Error("bytes", bytes)
	}
	if !slices.Equal(a, []api.Cell{num(1), ptr(2)}) || !slices.Equal(b, []api.Cell{handle(3)}) {
		t.Error("cells", a, b)
	}
}

func TestResultsAreNewMemory(t *testing.T) {
	words := []uint16{258, 3}
	encoded, cells := word.Bytes(words), word.Numbers(words)
	decoded, _ := word.Words(encoded)
	encoded[0], cells[0], decoded[0] = 99, ptr(99), 99
	if again := word.Bytes(words); !slices.Equal(again, []byte{1, 2, 0, 3}) {
		t.Error("Bytes", again)
	}
	if again := word.Numbers(words); !slices.Equal(again, []api.Cell{num(258), num(3)}) {
		t.Error("Numbers", again)
	}
	if again, errno := word.Words([]byte{1, 2, 0, 3}); errno != api.OK || !slices.Equal(again, words) {
		t.Error("Words", again, errno)
	}
}
