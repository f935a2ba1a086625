package style_test

import (
	"math"
	"testing"

	"purfling/api"
	"purfling/style"
)

const (
	top = math.MaxInt64
	low = math.MinInt64
	px  = 1073741824
)

// setter sets one number of a style.
type setter struct {
	name string
	set  func(*api.Style, int64)
}

var sideNames = []string{"top", "right", "bottom", "left"}

func lengths() []setter {
	l := []setter{
		{"Width", func(s *api.Style, n int64) { s.Width = api.Size{Kind: api.SizeLen, N: n} }},
		{"Height", func(s *api.Style, n int64) { s.Height = api.Size{Kind: api.SizeLen, N: n} }},
		{"Spacing along", func(s *api.Style, n int64) { s.Spacing[0] = n }},
		{"Spacing down", func(s *api.Style, n int64) { s.Spacing[1] = n }},
	}
	for i, name := range sideNames {
		l = append(l, setter{"Pad " + name, func(s *api.Style, n int64) { s.Pad[i] = n }})
		for kind := api.BNone; kind <= api.BInset; kind++ {
			l = append(l, setter{"Border " + name, func(s *api.Style, n int64) {
				s.Border[i] = api.Line{Style: kind, Width: n, Color: 5}
			}})
		}
	}
	return l
}

func shares() []setter {
	return []setter{
		{"Width", func(s *api.Style, n int64) { s.Width = api.Size{Kind: api.SizeShare, N: n} }},
		{"Height", func(s *api.Style, n int64) { s.Height = api.Size{Kind: api.SizeShare, N: n} }},
	}
}

func lineStyles() []setter {
	var l []setter
	for i, name := range sideNames {
		l = append(l,
			setter{"style of Border " + name, func(s *api.Style, n int64) { s.Border[i].Style = int(n) }},
			setter{"style of coloured Border " + name, func(s *api.Style, n int64) { s.Border[i] = api.Line{Style: int(n), Width: 2, Color: 1} }},
		)
	}
	return l
}

// rich is a style with something everywhere, so that what a number is set to isn't the only thing there.
func rich() api.Style {
	return api.Style{
		Width:    api.Size{Kind: api.SizeShare, N: 2500},
		Height:   api.Size{Kind: api.SizeLen, N: 64},
		Pad:      [4]int64{1, 2, 3, 4},
		Border:   [4]api.Line{{Style: api.BSolid, Width: 10, Color: 1}, {Style: api.BDouble, Width: 20, Color: 2}, {Style: api.BRidge, Width: 30, Color: 3}, {Style: api.BInset, Width: 40, Color: 4}},
		ColSpan:  2,
		RowSpan:  3,
		Align:    api.AlignMiddle,
		Fixed:    true,
		Collapse: true,
		Spacing:  [2]int64{5, 6},
		Hide:     true,
		Below:    true,
	}
}

// P3.1: each number has its own bounds, whatever else a style has.
func TestValidAsksEachNumberForItsBounds(t *testing.T) {
	for _, c := range []struct {
		setters     []setter
		least, most int64
	}{
		{lengths(), -px, px},
		{shares(), 0, 10000000},
		{lineStyles(), 0, 9},
		{[]setter{{"Align", func(s *api.Style, n int64) { s.Align = int(n) }}}, 0, 3},
		{[]setter{
			{"ColSpan", func(s *api.Style, n int64) { s.ColSpan = int(n) }},
			{"RowSpan", func(s *api.Style, n int64) { s.RowSpan = int(n) }},
		}, -1000, 1000},
		{[]setter{
			{"Kind of Width", func(s *api.Style, n int64) { s.Width.Kind = int(n) }},
			{"Kind of Height", func(s *api.Style, n int64) { s.Height.Kind = int(n) }},
		}, 0, 2},
	} {
		for _, one := range c.setters {
			for _, n := range []int64{low, low + 1, c.least - 1, c.least, 0, 1, c.most, c.most + 1, 1 << 32, 1<<32 + 1, top} {
				for _, s := range []api.Style{{}, rich()} {
					one.set(&s, n)
					want := c.least <= n && n <= c.most
					if got := style.Valid(s); got != want {
						t.Errorf("%s %d: Valid = %t, want %t", one.name, n, got, want)
					}
					if computed, err := style.Computed(s); want != (err == api.OK) || !want && (err != api.ErrStyle || computed != api.Style{}) {
						t.Errorf("%s %d: Computed = %v, error %d", one.name, n, computed, err)
					}
				}
			}
		}
	}
}

// P3.1: what no bound is named for is valid, whatever it is.
func TestValidLetsTheRestBe(t *testing.T) {
	for _, s := range []api.Style{
		{},
		rich(),
		{Width: api.Size{N: top}, Height: api.Size{N: low}},
		{Border: [4]api.Line{{Color: math.MaxUint32}, {}, {}, {Color: 1 << 31}}},
		{Fixed: true},
		{Collapse: true, Hide: true, Below: true},
	} {
		if !style.Valid(s) {
			t.Errorf("Valid(%v) = false", s)
		}
	}
}

// P3.1: the computed style differs from a valid one as the chapter says, and in nothing else.
func TestComputed(t *testing.T) {
	for _, c := range []struct {
		name string
		s    api.Style
		want api.Style
	}{
		{"nothing", api.Style{}, api.Style{ColSpan: 1}},
		{"all is right", rich(), rich()},
		{"row span 0", api.Style{ColSpan: 1, RowSpan: 0}, api.Style{ColSpan: 1, RowSpan: 0}},
		{"row span 1", api.Style{ColSpan: 1, RowSpan: 1}, api.Style{ColSpan: 1, RowSpan: 1}},
		{"row span -1", api.Style{ColSpan: 1, RowSpan: -1}, api.Style{ColSpan: 1, RowSpan: 1}},
		{"row span -3", api.Style{ColSpan: 1, RowSpan: -3}, api.Style{ColSpan: 1, RowSpan: 1}},
		{"widest row span", api.Style{ColSpan: 1, RowSpan: -1000}, api.Style{ColSpan: 1, RowSpan: 1}},
		{"column span 0", api.Style{ColSpan: 0, RowSpan: 1000}, api.Style{ColSpan: 1, RowSpan: 1000}},
		{"column span -1", api.Style{ColSpan: -1}, api.Style{ColSpan: 1}},
		{"column span -1000", api.Style{ColSpan: -1000}, api.Style{ColSpan: 1}},
		{"column span 1000", api.Style{ColSpan: 1000}, api.Style{ColSpan: 1000}},
		{
			"automatic sizes",
			api.Style{Width: api.Size{N: 7}, Height: api.Size{N: low}, ColSpan: 1},
			api.Style{ColSpan: 1},
		},
		{
			"lengths below 0",
			api.Style{Width: api.Size{Kind: api.SizeLen, N: -1}, Height: api.Size{Kind: api.SizeLen, N: -px}, Pad: [4]int64{-1, 5, -px, 7}, Spacing: [2]int64{-1, -px}, ColSpan: 1},
			api.Style{Width: api.Size{Kind: api.SizeLen}, Height: api.Size{Kind: api.SizeLen}, Pad: [4]int64{0, 5, 0, 7}, ColSpan: 1},
		},
		{
			"lengths of 0 and more",
			api.Style{Width: api.Size{Kind: api.SizeLen, N: px}, Height: api.Size{Kind: api.SizeLen, N: 1}, Pad: [4]int64{px, 0, 1, 2}, Spacing: [2]int64{0, px}, ColSpan: 1},
			api.Style{Width: api.Size{Kind: api.SizeLen, N: px}, Height: api.Size{Kind: api.SizeLen, N: 1}, Pad: [4]int64{px, 0, 1, 2}, Spacing: [2]int64{0, px}, ColSpan: 1},
		},
		{
			"shares",
			api.Style{Width: api.Size{Kind: api.SizeShare, N: 10000000}, Height: api.Size{Kind: api.SizeShare}, ColSpan: 1},
			api.Style{Width: api.Size{Kind: api.SizeShare, N: 10000000}, Height: api.Size{Kind: api.SizeShare}, ColSpan: 1},
		},
		{
			"borders that are not drawn",
			api.Style{Border: [4]api.Line{{Width: 5}, {Style: api.BHidden, Width: 3, Color: 6}, {Width: -5, Color: 7}, {Style: api.BHidden, Width: -3}}, ColSpan: 1},
			api.Style{Border: [4]api.Line{{}, {Style: api.BHidden, Color: 6}, {Color: 7}, {Style: api.BHidden}}, ColSpan: 1},
		},
		{
			"borders that are drawn",
			api.Style{Border: [4]api.Line{{Style: api.BDouble, Width: -5}, {Style: api.BInset, Width: -px, Color: 6}, {Style: api.BDotted, Width: 1}, {Style: api.BSolid, Width: px, Color: 9}}, ColSpan: 1},
			api.Style{Border: [4]api.Line{{Style: api.BDouble}, {Style: api.BInset, Color: 6}, {Style: api.BDotted, Width: 1}, {Style: api.BSolid, Width: px, Color: 9}}, ColSpan: 1},
		},
	} {
		if got, err := style.Computed(c.s); got != c.want || err != api.OK {
			t.Errorf("%s: Computed = %v, error %d, want %v", c.name, got, err, c.want)
		}
	}
}

// P3.1: every style of a border but BNone and BHidden keeps its width.
func TestComputedKeepsTheWidthsOfDrawnBorders(t *testing.T) {
	for kind := api.BNone; kind <= api.BInset; kind++ {
		for i, name := range sideNames {
			var s api.Style
			s.Border[i] = api.Line{Style: kind, Width: 5, Color: 8}
			want := int64(5)
			if kind == api.BNone || kind == api.BHidden {
				want = 0
			}
			got, err := style.Computed(s)
			if got.Border[i] != (api.Line{Style: kind, Width: want, Color: 8}) || err != api.OK {
				t.Errorf("%s border of style %d: %v, error %d, want width %d", name, kind, got.Border[i], err, want)
			}
		}
	}
}

// P3.2: a length is wanted as it is, a share of a known length is its part, and all else is none.
func TestWanted(t *testing.T) {
	length := func(n int64) api.Size { return api.Size{Kind: api.SizeLen, N: n} }
	share := func(n int64) api.Size { return api.Size{Kind: api.SizeShare, N: n} }
	for _, c := range []struct {
		w              api.Size
		of, none, want int64
	}{
		{length(3), 101, 7, 3},
		{length(3), -1, 7, 3},
		{length(0), 101, 7, 0},
		{length(-9), 101, 7, -9},
		{length(low), low, 7, low},
		{length(top), 0, -1, top},
		{share(5000), 101, 7, 50},
		{share(5000), -1, 7, 7},
		{share(5000), low, -1, -1},
		{share(5000), 0, 7, 0},
		{share(0), 101, 7, 0},
		{share(10000), top, 7, top},
		{share(10000000), top, 7, top},
		{share(10000000), 3, 7, 3000},
		{share(-1), 101, 7, 0},
		{share(-1), -1, 7, 7},
		{share(low), top, 7, 0},
		{api.Size{}, 101, 7, 7},
		{api.Size{N: 50}, 101, low, low},
		{api.Size{N: 50}, -1, top, top},
		{api.Size{Kind: 3, N: 50}, 101, 7, 7},
		{api.Size{Kind: -1, N: 50}, 101, 7, 7},
		{api.Size{Kind: math.MaxInt, N: 50}, -1, 7, 7},
	} {
		if got := style.Wanted(c.w, c.of, c.none); got != c.want {
			t.Errorf("Wanted(%v, %d, %d) = %d, want %d", c.w, c.of, c.none, got, c.want)
		}
	}
}

// P3.2: a frame is the padding, and the borders if they count, side by side and saturated.
func TestFrame(t *testing.T) {
	lines := func(widths ...int64) (l [4]api.Line) {
		for i, n := range widths {
			l[i] = api.Line{Style: api.BSolid, Width: n}
		}
		return l
	}
	for _, c := range []struct {
		s             api.Style
		without, with [4]int64
	}{
		{api.Style{}, [4]int64{}, [4]int64{}},
		{rich(), [4]int64{1, 2, 3, 4}, [4]int64{11, 22, 33, 44}},
		{api.Style{Pad: [4]int64{1, 2, 3, 4}}, [4]int64{1, 2, 3, 4}, [4]int64{1, 2, 3, 4}},
		{api.Style{Border: lines(1, 2, 3, 4)}, [4]int64{}, [4]int64{1, 2, 3, 4}},
		{api.Style{Pad: [4]int64{0, 0, 5, 0}, Border: lines(0, 7)}, [4]int64{0, 0, 5, 0}, [4]int64{0, 7, 5, 0}},
		{api.Style{Pad: [4]int64{-5, 5, -5, 5}, Border: lines(3, -3, -3, -9)}, [4]int64{-5, 5, -5, 5}, [4]int64{-2, 2, -8, -4}},
		{api.Style{Border: [4]api.Line{{Width: 5}, {Style: api.BHidden, Width: 6}, {Style: -1, Width: 7}, {Style: 10, Width: 8}}}, [4]int64{}, [4]int64{5, 6, 7, 8}},
		{api.Style{Pad: [4]int64{px, px, px, px}, Border: lines(px, px, px, px)}, [4]int64{px, px, px, px}, [4]int64{2 * px, 2 * px, 2 * px, 2 * px}},
		{api.Style{Pad: [4]int64{top, top, low, low}, Border: lines(1, top, -1, low)}, [4]int64{top, top, low, low}, [4]int64{top, top, low, low}},
		{api.Style{Pad: [4]int64{top, low, 1, -1}, Border: lines(low, top, top, low)}, [4]int64{top, low, 1, -1}, [4]int64{-1, -1, top, low}},
	} {
		if got := style.Frame(c.s, false); got != c.without {
			t.Errorf("Frame(%v, false) = %d, want %d", c.s, got, c.without)
		}
		if got := style.Frame(c.s, true); got != c.with {
			t.Errorf("Frame(%v, true) = %d, want %d", c.s, got, c.with)
		}
	}
}

// numbers are the same in every run, so that what fails once fails again.
type numbers uint64

func (r *numbers) below(n int) int {
	*r = *r*6364136223846793005 + 1442695040888963407
	return int(uint64(*r) >> 33 % uint64(n))
}

func (r *numbers) of(l ...int64) int64 { return l[r.below(len(l))] }

// some is a style whose numbers are mostly in their bounds, and often at them.
func (r *numbers) some() api.Style {
	length := func() int64 {
		return r.of(0, 0, 0, 1, 2, 64, -1, -2, -64, px, -px, px-1, int64(r.below(1000))-500)
	}
	size := func() api.Size {
		switch r.below(3) {
		case 0:
			return api.Size{N: r.of(0, 5, -5, top, low)}
		case 1:
			return api.Size{Kind: api.SizeLen, N: length()}
		}
		return api.Size{Kind: api.SizeShare, N: r.of(0, 1, 5000, 10000, 10000000)}
	}
	span := func() int { return int(r.of(0, 1, 2, -1, -2, 1000, -1000, 999)) }
	s := api.Style{
		Width: size(), Height: size(), ColSpan: span(), RowSpan: span(), Align: r.below(4),
		Fixed: r.below(2) == 0, Collapse: r.below(2) == 0, Hide: r.below(2) == 0, Below: r.below(2) == 0,
		Spacing: [2]int64{length(), length()},
	}
	for i := range s.Pad {
		s.Pad[i] = length()
		s.Border[i] = api.Line{Style: r.below(10), Width: length(), Color: uint32(r.below(3))}
	}
	if r.below(4) == 0 {
		r.spoil(&s)
	}
	return s
}

func (r *numbers) spoil(s *api.Style) {
	far := r.of(px+1, -px-1, top, low)
	switch i := r.below(4); r.below(8) {
	case 0:
		s.Pad[i] = far
	case 1:
		s.Border[i].Width = far
	case 2:
		s.Border[i].Style = int(r.of(-1, 10, far))
	case 3:
		s.Spacing[i/2] = far
	case 4:
		s.Width = api.Size{Kind: api.SizeLen, N: far}
	case 5:
		s.Height = api.Size{Kind: api.SizeShare, N: r.of(-1, 10000001, far)}
	case 6:
		s.Align = int(r.of(-1, 4, far))
	case 7:
		s.ColSpan = int(r.of(-1001, 1001, far))
	}
}

// computedByWords goes through the words of the chapter one by one.
func computedByWords(s api.Style) api.Style {
	for _, n := range []*int64{&s.Spacing[0], &s.Spacing[1], &s.Pad[0], &s.Pad[1], &s.Pad[2], &s.Pad[3]} {
		if *n < 0 {
			*n = 0
		}
	}
	for _, w := range []*api.Size{&s.Width, &s.Height} {
		if w.Kind == api.SizeAuto || w.Kind == api.SizeLen && w.N < 0 {
			w.N = 0
		}
	}
	for i := range s.Border {
		if l := &s.Border[i]; l.Width < 0 || l.Style < api.BDouble {
			l.Width = 0
		}
	}
	if s.ColSpan < 1 {
		s.ColSpan = 1
	}
	if s.RowSpan < 0 {
		s.RowSpan = 1
	}
	return s
}

// P3.3, P3.1: a computed style is valid, and is computed already; it is the one that the words tell.
func TestComputedIsValidAndComputed(t *testing.T) {
	r := numbers(3)
	wrong := 0
	for range 20000 {
		s := r.some()
		was := s
		c, err := style.Computed(s)
		if s != was {
			t.Fatalf("Computed changed %v to %v", was, s)
		}
		if !style.Valid(s) {
			wrong++
			if err != api.ErrStyle || c != (api.Style{}) {
				t.Fatalf("Computed(%v) = %v, error %d", s, c, err)
			}
			continue
		}
		if want := computedByWords(s); err != api.OK || c != want {
			t.Fatalf("Computed(%v) = %v, error %d, want %v", s, c, err, want)
		}
		if !style.Valid(c) {
			t.Fatalf("Computed(%v) = %v isn't valid", s, c)
		}
		if again, err := style.Computed(c); again != c || err != api.OK {
			t.Fatalf("Computed(%v) = %v, error %d", c, again, err)
		}
	}
	if wrong < 3000 || wrong > 7000 {
		t.Errorf("%d styles of 20000 weren't valid", wrong)
	}
}
