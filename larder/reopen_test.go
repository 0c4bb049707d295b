package larder_test

// What Open is held against: the document's words on journals, written out once more upon commandAt and the model.

import (
	"testing"

	"larder/api"
	"larder/larder"
)

// fills are the bytes that are tried as the high ones of a number that was cut: of each that can still come within its bounds, one of these makes it do so.
var fills = endings(3, "\x00", "\x01", "\x7f", "\x80")

// endings are all rows of at most n of the letters.
func endings(n int, letters ...string) []string {
	l := []string{""}
	if n == 0 {
		return l
	}
	for _, end := range endings(n-1, letters...) {
		for _, letter := range letters {
			l = append(l, letter+end)
		}
	}
	return l
}

// isTorn looks for a frame that s is less than all of: it goes on with a fill, and then as some ordinary frame does.
func isTorn(s string) bool {
	for _, c := range ordinary() {
		frame := frameOf(c)
		if len(s) >= len(frame) || s != "" && s[0] != frame[0] {
			continue
		}
		for _, fill := range fills {
			from := min(len(s)+len(fill), len(frame))
			if _, n, found := commandAt(s + fill + frame[from:]); found && n == len(frame) {
				return true
			}
		}
	}
	return false
}

// opened is the ledger of a journal, or the number of the frame that is wrong.
func opened(journal string) (*model, int, bool) {
	m := &model{}
	for number := 0; ; number++ {
		c, n, found := commandAt(journal)
		if !found {
			return m, number, isTorn(journal)
		}
		if m.do(c); len(m.accepted) == number {
			return m, number, false
		}
		journal = journal[n:]
	}
}

// checkOpen holds Open against the model, and gives what it opened, or nil.
func checkOpen(t *testing.T, journal string) *larder.Ledger {
	t.Helper()
	m, number, right := opened(journal)
	if !right {
		checkNoJournal(t, journal, number)
		return nil
	}
	l := mustOpen(t, journal)
	if why := pictureOf(t, l).unlike(m.picture()); why != "" {
		t.Fatalf("P9: behind Open(%q): %s", journal, why)
	}
	return l
}

func checkNoJournal(t *testing.T, journal string, number int) {
	t.Helper()
	if l, e, at := larder.Open(journal); l != nil || e != api.ErrJournal || at != number {
		t.Fatalf("P9: Open(%q) = %p, %d, %d, want nil, ErrJournal, %d", journal, l, e, at, number)
	}
}

func mustOpen(t *testing.T, journal string) *larder.Ledger {
	t.Helper()
	l, e, at := larder.Open(journal)
	if l == nil || e != api.OK || at != 0 {
		t.Fatalf("P9: Open(%q) = %p, %d, %d, want a ledger, OK, 0", journal, l, e, at)
	}
	return l
}

// framesOf lays frames one behind the other.
func framesOf(commands ...api.Command) string {
	s := ""
	for _, c := range commands {
		s += frameOf(c)
	}
	return s
}

// partsOf are the frames that stand in a journal that is whole.
func partsOf(t *testing.T, journal string) []string {
	t.Helper()
	var l []string
	for journal != "" {
		_, n, found := commandAt(journal)
		if !found {
			t.Fatalf("P8: no frame at the front of %q", journal)
		}
		l, journal = append(l, journal[:n]), journal[n:]
	}
	return l
}
