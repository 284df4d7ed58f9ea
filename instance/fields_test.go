package instance

import (
	"slices"
	"testing"
)

func TestLines(t *testing.T) {
	for _, c := range []struct {
		text string
		want []string
	}{
		{"", []string{""}}, {"\n", []string{"", ""}}, {"a", []string{"a"}}, {"a\n", []string{"a", ""}}, {"\na\n\nb c", []string{"", "a", "", "b c"}},
	} {
		if got := lines(c.text); !slices.Equal(got, c.want) {
			t.Errorf("lines(%q) = %q, want %q", c.text, got, c.want)
		}
	}
}

func TestFields(t *testing.T) {
	for _, c := range []struct {
		line string
		want []string
	}{
		{"", nil}, {"   ", nil}, {"a", []string{"a"}}, {" a  bc ", []string{"a", "bc"}}, {"a\tb\r", []string{"a\tb\r"}},
	} {
		if got := fields(c.line); !slices.Equal(got, c.want) {
			t.Errorf("fields(%q) = %q, want %q", c.line, got, c.want)
		}
	}
}

func TestNumber(t *testing.T) {
	for _, c := range []struct {
		field string
		value int
		ok    bool
	}{
		{"0", 0, true}, {"00000", 0, true}, {"007", 7, true}, {"99999", 99999, true}, {"", 0, false}, {"000000", 0, false}, {"1a", 0, false}, {"-1", 0, false}, {"/", 0, false}, {":", 0, false},
	} {
		if value, ok := number(c.field); value != c.value || ok != c.ok {
			t.Errorf("number(%q) = %d, %v, want %d, %v", c.field, value, ok, c.value, c.ok)
		}
	}
}
