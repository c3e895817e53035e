package sha

import (
	"crypto/sha256"
	"strings"
	"testing"

	"tabulary/api"
)

// abc is the one block of the text abc, filled up.
const abc = "abc\x80\x00\x00\x00\x00" + zeros + zeros + zeros + zeros + zeros + zeros + "\x00\x00\x00\x00\x00\x00\x00\x18"

const zeros = "\x00\x00\x00\x00\x00\x00\x00\x00"

// wantAnswers fails the test, unless each call that needs the constants answers what the library's hash does.
func wantAnswers(t *testing.T) {
	t.Helper()
	want := [8]uint32{0xba7816bf, 0x8f01cfea, 0x414140de, 0x5dae2223, 0xb00361a3, 0x96177a9c, 0xb410ff61, 0xf20015ad}
	if h, e := Block(Start().H, abc); h != want || e != api.OK {
		t.Errorf("Block: %x, %d", h, e)
	}
	if s := Write(Start(), abc); s.H != want {
		t.Errorf("Write: %x", s)
	}
	for _, text := range []string{"", "abc", strings.Repeat("x", 200)} {
		sum := api.Hash(sha256.Sum256([]byte(text)))
		if h := End(Write(Start(), text)); h != sum {
			t.Errorf("End: %x", h)
		}
		if h := Sum(text); h != sum {
			t.Errorf("Sum: %x", h)
		}
	}
}

// P2.1 (and its Ways): the constants are laid behind a call that reads them, and stay as they were laid.
func TestLaid(t *testing.T) {
	for range 2 {
		Block(Start().H, abc)
		if laid != constants() {
			t.Errorf("%x", laid)
		}
	}
	wantAnswers(t)
}

// P2.1, P2.2, R4: no answer hangs on what is laid.
func TestAnswersHangOnNoVariable(t *testing.T) {
	laying.Do(lay)
	defer lay()
	for _, spoilt := range [][rounds]uint32{{}, {0: 0x428a2f98}, laid} {
		spoilt[rounds-1]++
		laid = spoilt
		wantAnswers(t)
		if laid != spoilt {
			t.Errorf("laid again: %x", laid)
		}
	}
}
