package chars

import (
	"errors"
	"strings"
	"testing"

	"margin/api"
)

func TestCheckTakesTexts(t *testing.T) {
	for _, s := range []string{
		"", "a", "abc", "äé世", "\x00\x7f\u0080", "\ufffd", "\ufffd\ufffd\ufffd", "\U0010ffff", "e\u0301",
	} {
		if err := Check(s, 3); err != nil {
			t.Errorf("Check(%q, 3) = %v, want nil", s, err)
		}
	}
	if err := Check("", 0); err != nil {
		t.Errorf("Check of nothing, at most 0 = %v, want nil", err)
	}
}

func TestCheckRefuses(t *testing.T) {
	for _, c := range []struct {
		s    string
		most int
		at   int
	}{
		{"a", 0, 0},
		{"abcd", 3, 3},
		{"世世世世", 3, 3},
		{"\ufffd\ufffd", 1, 1},
		{"\xff", 3, 0},
		{"\x80", 3, 0},
		{"a\xc3", 3, 1},
		{"é\xe4\xb8", 3, 1},
		{"\ufffd\xff", 3, 1},
		{"\xed\xa0\x80", 9, 0},
		{"\xc0\x80", 9, 0},
		{"\xf4\x90\x80\x80", 9, 0},
		{"ab\xffcd", 9, 2},
		{strings.Repeat("a", 1000000), 30, 30},
	} {
		err := Check(c.s, c.most)
		var flaw Flaw
		if !errors.As(err, &flaw) || flaw.At != c.at {
			t.Errorf("Check(%.20q, %d) = %v, want a flaw at %d", c.s, c.most, err, c.at)
		}
		if !errors.Is(err, api.ErrText) {
			t.Errorf("Check(%.20q, %d) = %v, want one that wraps ErrText", c.s, c.most, err)
		}
	}
}

func TestFlawTellsWhere(t *testing.T) {
	if got, want := (Flaw{At: 12}).Error(), "problem 6 at character 12"; got != want {
		t.Errorf("Error = %q, want %q", got, want)
	}
}
