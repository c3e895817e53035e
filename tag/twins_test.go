package tag

import (
	"slices"
	"testing"

	"tabulary/api"
	"tabulary/sha"
)

// short is a hash under which texts of one length have the same.
func short(text string) api.Hash { return api.Hash{31: byte(len(text))} }

// P3.2: Twins, of a hash under which there are some.
func TestTwins(t *testing.T) {
	for _, x := range []struct {
		a, b string
		want []string
	}{
		{"a", "b", []string{"a", "b"}},
		{"b", "a", []string{"b", "a"}},
		{"a\x00", "a\x01", []string{"a\x00", "a\x01"}},
		{"a", "a", nil},
		{"", "", nil},
		{"a", "ab", nil},
		{"", "a", nil},
	} {
		if l, is := twins(x.a, x.b, short); !slices.Equal(l, x.want) || is != (x.want != nil) {
			t.Errorf("%q, %q: %q, %v", x.a, x.b, l, is)
		}
	}
	if l, is := twins("a", "b", sha.Sum); l != nil || is {
		t.Errorf("%q, %v", l, is)
	}
}
