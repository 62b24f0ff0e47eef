package region_test

import (
	"math"
	"slices"
	"testing"

	"redundancy/api"
	"redundancy/region"
)

func place(r, offset int) api.Place { return api.Place{Region: r, Offset: offset} }

// run returns n places of a region, from an offset on.
func run(r, offset, n int) []api.Place {
	var places []api.Place
	for i := range n {
		places = append(places, place(r, offset+i))
	}
	return places
}

// placesOf counts the places region by region.
func placesOf(sizes []int) []api.Place {
	var places []api.Place
	for r, size := range sizes {
		places = append(places, run(r, 0, size)...)
	}
	return places
}

// pagesOf cuts the places wherever a region begins or a page is full.
func pagesOf(sizes []int) [][]api.Place {
	var pages [][]api.Place
	for _, p := range placesOf(sizes) {
		if p.Offset%8 == 0 {
			pages = append(pages, nil)
		}
		last := len(pages) - 1
		pages[last] = append(pages[last], p)
	}
	return pages
}

// manySizes returns every size of one region, and up to four regions of sizes
// around the lengths of pages.
func manySizes() [][]int {
	var all [][]int
	for size := 1; size <= 32; size++ {
		all = append(all, []int{size})
	}
	edges := []int{1, 2, 7, 8, 9, 16, 17, 24, 25, 31, 32}
	shorter := [][]int{nil}
	for range 4 {
		var longer [][]int
		for _, sizes := range shorter {
			for _, size := range edges {
				longer = append(longer, append(slices.Clone(sizes), size))
			}
		}
		shorter = longer
		if len(longer) > 2000 {
			// Of four regions a part is enough; the step is no multiple of
			// the number of edges, so that each appears at each position.
			for i := 0; i < len(longer); i += 13 {
				all = append(all, longer[i])
			}
			continue
		}
		all = append(all, longer...)
	}
	return all
}

// P2.1

func TestValid(t *testing.T) {
	for _, c := range []struct {
		name  string
		sizes []int
		want  bool
	}{
		{"nil", nil, false},
		{"empty", []int{}, false},
		{"one word", []int{1}, true},
		{"no word", []int{0}, false},
		{"the largest", []int{32}, true},
		{"too large", []int{33}, false},
		{"negative", []int{-1}, false},
		{"largest int", []int{math.MaxInt}, false},
		{"least int", []int{math.MinInt}, false},
		{"two", []int{10, 3}, true},
		{"three", []int{1, 32, 1}, true},
		{"four", []int{32, 32, 32, 32}, true},
		{"four of one word", []int{1, 1, 1, 1}, true},
		{"five", []int{1, 1, 1, 1, 1}, false},
		{"many", slices.Repeat([]int{1}, 1000), false},
		{"the first without words", []int{0, 4, 4, 4}, false},
		{"the second too large", []int{4, 33, 4, 4}, false},
		{"the third negative", []int{4, 4, -4, 4}, false},
		{"the last without words", []int{4, 4, 4, 0}, false},
		{"the last too large", []int{4, 4, 4, 33}, false},
	} {
		if got := region.Valid(c.sizes); got != c.want {
			t.Errorf("%s: %v", c.name, got)
		}
	}
}

func TestValidOfEverySize(t *testing.T) {
	for size := -40; size <= 300; size++ {
		want := size >= 1 && size <= 32
		for position := range 4 {
			sizes := []int{5, 5, 5, 5}
			sizes[position] = size
			if got := region.Valid(sizes); got != want {
				t.Errorf("Valid(%v) = %v", sizes, got)
			}
		}
	}
}

func TestTotalAndPages(t *testing.T) {
	for _, c := range []struct {
		sizes        []int
		total, pages int
	}{
		{[]int{1}, 1, 1},
		{[]int{7}, 7, 1},
		{[]int{8}, 8, 1},
		{[]int{9}, 9, 2},
		{[]int{32}, 32, 4},
		{[]int{10, 3}, 13, 3},
		{[]int{3, 10}, 13, 3},
		{[]int{4, 4}, 8, 2},
		{[]int{8, 16, 17}, 41, 6},
		{[]int{1, 1, 1, 1}, 4, 4},
		{[]int{32, 32, 32, 32}, 128, 16},
		{[]int{32, 31, 25, 24}, 112, 15},
	} {
		if got := region.Total(c.sizes); got != c.total {
			t.Errorf("Total(%v) = %d, want %d", c.sizes, got, c.total)
		}
		if got := region.Pages(c.sizes); got != c.pages {
			t.Errorf("Pages(%v) = %d, want %d", c.sizes, got, c.pages)
		}
	}
}

func TestTotalAndPagesOfManySizes(t *testing.T) {
	for _, sizes := range manySizes() {
		if got, want := region.Total(sizes), len(placesOf(sizes)); got != want {
			t.Errorf("Total(%v) = %d, want %d", sizes, got, want)
		}
		if got, want := region.Pages(sizes), len(pagesOf(sizes)); got != want {
			t.Errorf("Pages(%v) = %d, want %d", sizes, got, want)
		}
	}
}

// notPlaces returns places that sizes 10, 3 do not have.
func notPlaces() []api.Place {
	return []api.Place{
		place(-1, 0), place(2, 0), place(3, 0), place(4, 0),
		place(0, -1), place(0, 10), place(0, 11), place(0, 12), place(0, 32),
		place(1, -1), place(1, 3), place(1, 4), place(1, 9),
		place(-1, -1), place(-1, 10), place(2, -3), place(2, 3),
		place(math.MinInt, 0), place(math.MaxInt, 0),
		place(0, math.MinInt), place(0, math.MaxInt),
		place(1, math.MinInt), place(1, math.MaxInt), place(1, math.MaxInt-9),
		place(math.MinInt, math.MaxInt), place(math.MaxInt, math.MinInt),
	}
}

func TestInside(t *testing.T) {
	sizes := []int{10, 3}
	for _, p := range []api.Place{place(0, 0), place(0, 9), place(1, 0), place(1, 2)} {
		if !region.Inside(sizes, p) {
			t.Errorf("%v is not inside", p)
		}
	}
	for _, p := range notPlaces() {
		if region.Inside(sizes, p) {
			t.Errorf("%v is inside", p)
		}
	}
}

func TestInsideAndIndexAgreeWithThePlaces(t *testing.T) {
	for _, sizes := range [][]int{{1}, {8}, {32}, {10, 3}, {3, 10}, {1, 9, 2}, {32, 1, 31, 8}, {32, 32, 32, 32}} {
		places := placesOf(sizes)
		for r := -2; r <= 6; r++ {
			for offset := -35; offset <= 70; offset++ {
				p := place(r, offset)
				want, errno := slices.Index(places, p), api.OK
				if want < 0 {
					want, errno = 0, api.ErrRange
				}
				if got := region.Inside(sizes, p); got != (errno == api.OK) {
					t.Errorf("Inside(%v, %v) = %v", sizes, p, got)
				}
				if got, e := region.Index(sizes, p); got != want || e != errno {
					t.Errorf("Index(%v, %v) = %d, %d, want %d, %d", sizes, p, got, e, want, errno)
				}
			}
		}
	}
}

// P2.2

func TestIndex(t *testing.T) {
	sizes := []int{10, 3, 32, 1}
	for _, c := range []struct {
		p    api.Place
		want int
	}{
		{place(0, 0), 0},
		{place(0, 9), 9},
		{place(1, 0), 10},
		{place(1, 1), 11},
		{place(1, 2), 12},
		{place(2, 0), 13},
		{place(2, 31), 44},
		{place(3, 0), 45},
	} {
		if got, errno := region.Index(sizes, c.p); got != c.want || errno != api.OK {
			t.Errorf("Index(%v) = %d, %d, want %d", c.p, got, errno, c.want)
		}
	}
}

func TestIndexOfNoPlaceIsErrRange(t *testing.T) {
	for _, p := range notPlaces() {
		if got, errno := region.Index([]int{10, 3}, p); got != 0 || errno != api.ErrRange {
			t.Errorf("Index(%v) = %d, %d", p, got, errno)
		}
	}
}

func TestAt(t *testing.T) {
	sizes := []int{10, 3, 32, 1}
	for _, c := range []struct {
		i    int
		want api.Place
	}{
		{0, place(0, 0)},
		{9, place(0, 9)},
		{10, place(1, 0)},
		{11, place(1, 1)},
		{12, place(1, 2)},
		{13, place(2, 0)},
		{44, place(2, 31)},
		{45, place(3, 0)},
	} {
		if got, errno := region.At(sizes, c.i); got != c.want || errno != api.OK {
			t.Errorf("At(%d) = %v, %d, want %v", c.i, got, errno, c.want)
		}
	}
}

// outOf returns numbers that are not from 0 to n - 1.
func outOf(n int) []int {
	return []int{-1, -2, -n, -n - 1, n, n + 1, 2 * n, 1 << 40, -1 << 40, math.MaxInt, math.MaxInt - 1, math.MinInt, math.MinInt + 1}
}

func TestAtOfNoNumberIsErrRange(t *testing.T) {
	for _, sizes := range [][]int{{1}, {10, 3}, {8, 8}, {32, 32, 32, 32}} {
		for _, i := range outOf(len(placesOf(sizes))) {
			if got, errno := region.At(sizes, i); got != place(0, 0) || errno != api.ErrRange {
				t.Errorf("At(%v, %d) = %v, %d", sizes, i, got, errno)
			}
		}
	}
}

func TestIndexAndAtAreInverses(t *testing.T) {
	for _, sizes := range manySizes() {
		places := placesOf(sizes)
		for i, p := range places {
			if got, errno := region.At(sizes, i); got != p || errno != api.OK {
				t.Errorf("At(%v, %d) = %v, %d, want %v", sizes, i, got, errno, p)
			}
			if got, errno := region.Index(sizes, p); got != i || errno != api.OK {
				t.Errorf("Index(%v, %v) = %d, %d, want %d", sizes, p, got, errno, i)
			}
		}
		if got, errno := region.At(sizes, len(places)); got != place(0, 0) || errno != api.ErrRange {
			t.Errorf("At(%v, %d) = %v, %d", sizes, len(places), got, errno)
		}
	}
}

func TestPage(t *testing.T) {
	for _, c := range []struct {
		sizes []int
		i     int
		want  []api.Place
	}{
		{[]int{1}, 0, run(0, 0, 1)},
		{[]int{10, 3}, 0, run(0, 0, 8)},
		{[]int{10, 3}, 1, run(0, 8, 2)},
		{[]int{10, 3}, 2, run(1, 0, 3)},
		{[]int{8, 8}, 0, run(0, 0, 8)},
		{[]int{8, 8}, 1, run(1, 0, 8)},
		{[]int{1, 1, 1, 1}, 3, run(3, 0, 1)},
		{[]int{32, 32, 32, 32}, 3, run(0, 24, 8)},
		{[]int{32, 32, 32, 32}, 15, run(3, 24, 8)},
		{[]int{9, 17, 31}, 4, run(1, 16, 1)},
		{[]int{9, 17, 31}, 8, run(2, 24, 7)},
	} {
		if got, errno := region.Page(c.sizes, c.i); !slices.Equal(got, c.want) || errno != api.OK {
			t.Errorf("Page(%v, %d) = %v, %d, want %v", c.sizes, c.i, got, errno, c.want)
		}
	}
}

func TestPageThatIsNotThereIsErrRange(t *testing.T) {
	for _, sizes := range [][]int{{1}, {10, 3}, {8, 8}, {32, 32, 32, 32}} {
		for _, i := range outOf(len(pagesOf(sizes))) {
			if got, errno := region.Page(sizes, i); len(got) != 0 || errno != api.ErrRange {
				t.Errorf("Page(%v, %d) = %v, %d", sizes, i, got, errno)
			}
		}
	}
}

func TestPagesTogetherHaveEachPlaceOnce(t *testing.T) {
	for _, sizes := range manySizes() {
		var together []api.Place
		for i, want := range pagesOf(sizes) {
			got, errno := region.Page(sizes, i)
			if !slices.Equal(got, want) || errno != api.OK {
				t.Errorf("Page(%v, %d) = %v, %d, want %v", sizes, i, got, errno, want)
			}
			together = append(together, got...)
		}
		if !slices.Equal(together, placesOf(sizes)) {
			t.Errorf("pages of %v: %v", sizes, together)
		}
		if got, errno := region.Page(sizes, region.Pages(sizes)); len(got) != 0 || errno != api.ErrRange {
			t.Errorf("the page behind the last one of %v: %v, %d", sizes, got, errno)
		}
	}
}

// R1

func TestSizesThatAreNotValidDoNoHarm(t *testing.T) {
	numbers := []int{math.MinInt, math.MinInt + 1, -33, -1, 0, 1, 7, 8, 31, 32, 33, 1 << 40, math.MaxInt - 7, math.MaxInt - 1, math.MaxInt}
	lists := [][]int{nil, {}, {1, 1, 1, 1, 1}, slices.Repeat([]int{math.MaxInt}, 9)}
	for _, a := range numbers {
		lists = append(lists, []int{a})
		for _, b := range numbers {
			lists = append(lists, []int{a, b}, []int{4, a, b, 4})
		}
	}
	for _, sizes := range lists {
		region.Valid(sizes)
		region.Total(sizes)
		region.Pages(sizes)
		for _, i := range numbers {
			region.At(sizes, i)
			region.Page(sizes, i)
			for _, offset := range numbers {
				region.Inside(sizes, place(i, offset))
				region.Index(sizes, place(i, offset))
			}
		}
	}
}

// R2

func TestArgumentsAreNotChanged(t *testing.T) {
	for _, sizes := range [][]int{{10, 3}, {4, 33}, {7, 0, -1}, {1, 2, 3, 4, 5}} {
		before := slices.Clone(sizes)
		region.Valid(sizes)
		region.Total(sizes)
		region.Pages(sizes)
		region.Inside(sizes, place(1, 1))
		region.Index(sizes, place(1, 1))
		region.At(sizes, 11)
		region.Page(sizes, 1)
		if !slices.Equal(sizes, before) {
			t.Errorf("%v has become %v", before, sizes)
		}
	}
}

func TestPageIsNewMemory(t *testing.T) {
	sizes := []int{10, 3}
	first, _ := region.Page(sizes, 0)
	first[0] = place(9, 9)
	_ = append(first[:1], place(9, 9))
	if again, errno := region.Page(sizes, 0); errno != api.OK || !slices.Equal(again, run(0, 0, 8)) {
		t.Error("Page", again, errno)
	}
}
