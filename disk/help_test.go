package disk_test

import (
	"math"
	"math/rand"
	"slices"
	"strings"
	"testing"

	"tabulary/api"
)

// noughts are so many bytes of 0.
func noughts(many int) string { return string(make([]byte, many)) }

// rightMany and rightSizes are the edges of how many sectors a disk has, of how many bytes each.
var (
	rightMany  = []int{1, 2, 3, 4095, 4096}
	rightSizes = []int{96, 97, 512, 1023, 1024}
	wrongMany  = []int{0, 4097, -1, -4096, 4098, 8192, 1 << 32, 1<<32 + 1, math.MinInt, math.MaxInt}
	wrongSizes = []int{95, 1025, 0, 1, -1, -96, 2048, 1 << 32, 1<<32 + 96, math.MinInt, math.MaxInt}
)

// keptOf is how many of a write's first bytes a crash keeps.
func keptOf(w api.Write, i int, keep []int) int {
	if i >= len(keep) || keep[i] < 1 {
		return 0
	}
	if keep[i] > len(w.S) {
		return len(w.S)
	}
	return keep[i]
}

// laidOf are a disk's sectors, each byte by the last write that reaches it with as many bytes as long tells of it.
func laidOf(d api.Disk, long func(i int) int) []string {
	writes := make([][]int, len(d.Kept))
	for i, w := range d.W {
		writes[w.At] = append(writes[w.At], i)
	}
	out := make([]string, 0, len(d.Kept))
	for at, sector := range d.Kept {
		b := []byte(sector)
		for place := range b {
			for _, i := range slices.Backward(writes[at]) {
				if place < long(i) {
					b[place] = d.W[i].S[place]
					break
				}
			}
		}
		out = append(out, string(b))
	}
	return out
}

// imageOf is what Image has to answer.
func imageOf(d api.Disk) []string { return laidOf(d, func(i int) int { return len(d.W[i].S) }) }

// crashOf is what Crash has to answer.
func crashOf(d api.Disk, keep []int) api.Disk {
	return api.Disk{Size: d.Size, Kept: laidOf(d, func(i int) int { return keptOf(d.W[i], i, keep) })}
}

// sameOf: are two disks the same, list by list?
func sameOf(a, b api.Disk) bool {
	return a.Size == b.Size && a.Off == b.Off && slices.Equal(a.Kept, b.Kept) && slices.Equal(a.W, b.W)
}

// isNone: is it the zero value?
func isNone(d api.Disk) bool { return sameOf(d, api.Disk{}) }

// copyOf is a disk with lists of its own.
func copyOf(d api.Disk) api.Disk {
	d.Kept, d.W = slices.Clone(d.Kept), slices.Clone(d.W)
	return d
}

// spoil writes over all that a disk's lists have, and behind it.
func spoil(d api.Disk) {
	kept, w := d.Kept[:cap(d.Kept)], d.W[:cap(d.W)]
	for i := range kept {
		kept[i] = "spoilt"
	}
	for i := range w {
		w[i] = api.Write{At: -7, S: "spoilt"}
	}
}

// wantDisk fails the test, unless a disk is that one.
func wantDisk(t *testing.T, what string, got, want api.Disk) {
	t.Helper()
	if !sameOf(got, want) {
		t.Errorf("%s: %s, not %s", what, toldOf(got), toldOf(want))
	}
}

// toldOf tells a disk in few words.
func toldOf(d api.Disk) string {
	var b strings.Builder
	b.WriteString("a disk")
	if d.Off {
		b.WriteString(" without power")
	}
	for i, s := range d.Kept {
		if short := strings.TrimRight(s, "\x00"); i < 4 && short != "" {
			b.WriteString(" [" + short[:min(len(short), 8)] + "]")
		}
	}
	for i, w := range d.W {
		if i < 4 {
			b.WriteString(" <" + w.S[:min(len(w.S), 8)] + ">")
		}
	}
	return b.String()
}

// anyText has so many bytes, any ones.
func anyText(r *rand.Rand, many int) string {
	b := make([]byte, many)
	r.Read(b)
	return string(b)
}

// anyLength is 1 to size, its edges often.
func anyLength(r *rand.Rand, size int) int {
	return []int{1, 2, size - 1, size, 1 + r.Intn(size), 1 + r.Intn(size)}[r.Intn(6)]
}

// anyDisk is a right disk with so many writes, many of them to few sectors.
func anyDisk(r *rand.Rand, many, size, writes int) api.Disk {
	d := api.Disk{Size: size, Off: r.Intn(3) == 0}
	for range many {
		d.Kept = append(d.Kept, anyText(r, size))
	}
	for range writes {
		at := []int{0, many - 1, r.Intn(many), r.Intn(min(many, 4))}[r.Intn(4)]
		d.W = append(d.W, api.Write{At: at, S: anyText(r, anyLength(r, size))})
	}
	return d
}

// anyKeep is what a crash keeps, shorter or longer than the writes, with numbers of all kinds.
func anyKeep(r *rand.Rand, d api.Disk) []int {
	var keep []int
	for i := range r.Intn(len(d.W) + 3) {
		long := d.Size
		if i < len(d.W) {
			long = len(d.W[i].S)
		}
		numbers := []int{0, 1, -1, long, long - 1, long + 1, d.Size, d.Size + 1, r.Intn(long + 1), math.MinInt, math.MaxInt}
		keep = append(keep, numbers[r.Intn(len(numbers))])
	}
	return keep
}

// anyDisks are right ones, of all edges, with no write, one, and many.
func anyDisks(r *rand.Rand) []api.Disk {
	var out []api.Disk
	for _, many := range []int{1, 2, 5, 40} {
		for _, size := range rightSizes {
			for _, writes := range []int{0, 1, 2, 3, 17} {
				out = append(out, anyDisk(r, many, size, writes))
			}
		}
	}
	return append(out, anyDisk(r, 4096, 96, 300), anyDisk(r, 4096, 1024, 300), anyDisk(r, 1, 96, 2000), anyDisk(r, 3, 1024, 2000))
}

// wrongDisks are such that are not right, each in one way, or in some.
func wrongDisks() map[string]api.Disk {
	kept := func(many, size int) []string { return slices.Repeat([]string{noughts(size)}, many) }
	with := func(w ...api.Write) api.Disk { return api.Disk{Size: 96, Kept: kept(3, 96), W: w} }
	good := api.Write{At: 2, S: "abc"}
	out := map[string]api.Disk{
		"the zero disk":               {},
		"no sector":                   {Size: 96},
		"no sector, but a list":       {Size: 96, Kept: []string{}},
		"no sector, but a write":      {Size: 96, W: []api.Write{{At: 0, S: "a"}}},
		"a sector too many":           {Size: 96, Kept: kept(4097, 96)},
		"a size too small":            {Size: 95, Kept: kept(3, 95)},
		"a size too great":            {Size: 1025, Kept: kept(3, 1025)},
		"a size of 0":                 {Size: 0, Kept: kept(3, 0)},
		"a size of 0, and a write":    {Size: 0, Kept: kept(3, 0), W: []api.Write{good}},
		"a size below 0":              {Size: -96, Kept: kept(3, 96)},
		"a size below 0, and a write": {Size: math.MinInt, Kept: kept(3, 0), W: []api.Write{good}},
		"a great size":                {Size: math.MaxInt, Kept: kept(3, 96), W: []api.Write{good}},
		"another size":                {Size: 97, Kept: kept(3, 96)},
		"a first sector too short":    {Size: 96, Kept: []string{noughts(95), noughts(96)}},
		"a last sector too short":     {Size: 96, Kept: []string{noughts(96), noughts(95)}},
		"a first sector too long":     {Size: 96, Kept: []string{noughts(97), noughts(96)}},
		"a last sector too long":      {Size: 96, Kept: []string{noughts(96), noughts(97)}},
		"an empty sector":             {Size: 96, Kept: []string{noughts(96), "", noughts(96)}, W: []api.Write{{At: 1, S: "a"}}},
		"a write to -1":               with(api.Write{At: -1, S: "abc"}),
		"a write behind":              with(api.Write{At: 3, S: "abc"}),
		"a write far behind":          with(api.Write{At: math.MaxInt, S: "abc"}),
		"a write far ahead":           with(api.Write{At: math.MinInt, S: "abc"}),
		"a write of nothing":          with(api.Write{At: 1}),
		"a write too long":            with(api.Write{At: 1, S: noughts(97)}),
		"a wrong write behind":        with(good, good, api.Write{At: 3, S: "abc"}),
		"a wrong write ahead":         with(api.Write{At: 1}, good, good),
		"a long write between":        with(good, api.Write{At: 0, S: noughts(200)}, good),
	}
	for name, d := range out {
		d.Off = true
		out[name+", without power"] = d
	}
	return out
}

// The oracle itself, by hand.
func TestOracle(t *testing.T) {
	d := api.Disk{Size: 4, Kept: []string{"abcd", "efgh"}, W: []api.Write{{At: 0, S: "12"}, {At: 1, S: "345"}, {At: 0, S: "6"}}}
	if got := imageOf(d); !slices.Equal(got, []string{"62cd", "345h"}) {
		t.Errorf("%q", got)
	}
	for _, x := range []struct {
		keep []int
		want []string
	}{
		{nil, []string{"abcd", "efgh"}},
		{[]int{9, 2, 0}, []string{"12cd", "34gh"}},
		{[]int{1, -1, 1, 5}, []string{"6bcd", "efgh"}},
	} {
		if got := crashOf(d, x.keep).Kept; !slices.Equal(got, x.want) {
			t.Errorf("%v: %q", x.keep, got)
		}
	}
	other := copyOf(d)
	spoil(other)
	if d.Kept[0] != "abcd" || d.W[0].S != "12" || sameOf(d, other) {
		t.Error("a copy is none")
	}
}
