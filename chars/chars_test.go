package chars

import (
	"errors"
	"math"
	"strings"
	"testing"

	"margin/api"
)

func TestCheckTakesTexts(t *testing.T) {
	for _, s := range []string{
		"", "a", "abc", "äé世", "\x00\x7f\u0080", "\ufffd", "\ufffd\ufffd\ufffd", "\U0010ffff", "e\u0301",
	} {
		if err := Check(s, 3); err != nil {
			t.Errorf("Check(%q, 3) = %v, want nil", s, err)
		}
	}
	if err := Check("", 0); err != nil {
		t.Errorf("Check of nothing, at most 0 = %v, want nil", err)
	}
}

func TestCheckRefuses(t *testing.T) {
	for _, c := range []struct {
		s    string
		most int
		at   int
	}{
		{"a", 0, 0},
		{"abcd", 3, 3},
		{"世世世世", 3, 3},
		{"\ufffd\ufffd", 1, 1},
		{"\xff", 3, 0},
		{"\x80", 3, 0},
		{"a\xc3", 3, 1},
		{"é\xe4\xb8", 3, 1},
		{"\ufffd\xff", 3, 1},
		{"\xed\xa0\x80", 9, 0},
		{"\xc0\x80", 9, 0},
		{"\xf4\x90\x80\x80", 9, 0},
		{"ab\xffcd", 9, 2},
		{strings.Repeat("a", 1000000), 30, 30},
	} {
		err := Check(c.s, c.most)
		var flaw Flaw
		if !errors.As(err, &flaw) || flaw.At != c.at {
			t.Errorf("Check(%.20q, %d) = %v, want a flaw at %d", c.s, c.most, err, c.at)
		}
		if !errors.Is(err, api.ErrText) {
			t.Errorf("Check(%.20q, %d) = %v, want one that wraps ErrText", c.s, c.most, err)
		}
	}
}

func TestErrorsTellWhere(t *testing.T) {
	if got, want := (Flaw{At: 12}).Error(), "problem 6 at character 12"; got != want {
		t.Errorf("Error = %q, want %q", got, want)
	}
	if got, want := (Outside{Offset: -3}).Error(), "problem 3 at offset -3"; got != want {
		t.Errorf("Error = %q, want %q", got, want)
	}
}

func TestCount(t *testing.T) {
	for s, want := range map[string]int{"": 0, "a": 1, "é": 1, "a世é": 3, "\ufffd😀": 2, "e\u0301": 2} {
		if got := Count(s); got != want {
			t.Errorf("Count(%q) = %d, want %d", s, got, want)
		}
	}
}

// outside: the error is an Outside of that offset, and asked as ErrIndex it is one.
func outside(t *testing.T, what string, err error, offset int) {
	t.Helper()
	var got Outside
	if !errors.As(err, &got) || got.Offset != offset || !errors.Is(err, api.ErrIndex) {
		t.Errorf("%s: %v, want one that is outside, at %d", what, err, offset)
	}
}

func TestFindCountsCharacters(t *testing.T) {
	for s, ends := range map[string][]int{"": {0}, "ab": {0, 1, 2}, "a世é😀": {0, 1, 4, 6, 10}, "\ufffd": {0, 3}} {
		for offset, want := range ends {
			if got, err := Find(s, offset); got != want || err != nil {
				t.Errorf("Find(%q, %d) = %d, %v, want %d", s, offset, got, err, want)
			}
		}
		for _, offset := range []int{-1, len(ends), len(ends) + 1, math.MaxInt, math.MinInt} {
			got, err := Find(s, offset)
			outside(t, "Find", err, offset)
			if got != 0 {
				t.Errorf("Find(%q, %d) = %d beside an error", s, offset, got)
			}
		}
	}
}

func TestSplice(t *testing.T) {
	for _, c := range []struct {
		s             string
		offset, count int
		fresh, want   string
	}{
		{"", 0, 0, "", ""},
		{"", 0, 5, "世", "世"},
		{"世é", 0, 0, "a", "a世é"},
		{"世é", 1, 0, "a", "世aé"},
		{"世é", 2, 0, "a", "世éa"},
		{"世é", 2, 1, "a", "世éa"},
		{"世é", 1, 1, "", "世"},
		{"世é", 0, 1, "", "é"},
		{"世é", 0, 2, "abc", "abc"},
		{"世é", 0, math.MaxInt, "\ufffd", "\ufffd"},
		{"世é", 1, math.MaxInt, "abc", "世abc"},
	} {
		got, err := Splice(c.s, c.offset, c.count, c.fresh, 4)
		if got != c.want || err != nil {
			t.Errorf("Splice(%q, %d, %d, %q, 4) = %q, %v, want %q", c.s, c.offset, c.count, c.fresh, got, err, c.want)
		}
	}
}

func TestSpliceTellsTheFirstProblem(t *testing.T) {
	for _, offset := range []int{-1, 3, math.MaxInt, math.MinInt} {
		got, err := Splice("世é", offset, -1, "\xff", 4)
		outside(t, "no such offset", err, offset)
		if got != "" {
			t.Errorf("%q beside an error", got)
		}
	}
	for _, count := range []int{-1, math.MinInt} {
		_, err := Splice("世é", 2, count, "\xff", 4)
		outside(t, "a count below 0", err, count)
	}
	for _, c := range []struct {
		offset, count int
		fresh         string
		at            int
	}{
		{0, 0, "abc", 2}, {2, 0, "abc", 2}, {2, 7, "abc", 2}, {1, 1, "abcd", 3}, {0, 2, "abcde", 4}, {0, 0, "a\xc3", 1}, {1, 0, "\xa9", 0},
	} {
		got, err := Splice("世é", c.offset, c.count, c.fresh, 4)
		var flaw Flaw
		if !errors.As(err, &flaw) || flaw.At != c.at || !errors.Is(err, api.ErrText) || got != "" {
			t.Errorf("Splice at %d, %d, %q: %q, %v, want a flaw at %d", c.offset, c.count, c.fresh, got, err, c.at)
		}
	}
}
