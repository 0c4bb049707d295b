// Package larder: stock, and what is promised of it: see DOC.md.
package larder

import (
	"larder/api"
	"larder/command"
	"larder/holds"
	"larder/stock"
)

// Ledger has goods, holds and a journal.
type Ledger struct {
	now     int
	goods   [api.Goods]stock.Good
	holds   *holds.Book
	last    lastAnswers
	journal []byte
}

// Right tells whether a command is right (P3).
func Right(c api.Command) api.Errno { return command.Right(c) }

// Frame writes a command (P3).
func Frame(c api.Command) (string, api.Errno) { return command.Frame(c) }

// Unframe reads a command off the front, and tells how many bytes it has (P4).
func Unframe(s string) (api.Command, int, api.Errno) { return command.Unframe(s) }

// New makes a ledger (P5).
func New() *Ledger { return &Ledger{holds: holds.New()} }

// Open makes a ledger of a journal; if it is none, the number of the frame is told (P9).
func Open(journal string) (*Ledger, api.Errno, int) {
	l := New()
	for number := 0; !command.Torn(journal); number++ {
		c, size, err := command.Unframe(journal)
		if err != api.OK || !l.accepts(c) {
			return nil, api.ErrJournal, number
		}
		journal = journal[size:]
	}
	return l, api.OK, 0
}

// Do does a command (P5 to P7).
func (l *Ledger) Do(c api.Command) api.Answer {
	frame, err := command.Frame(c)
	if err != api.OK {
		return api.Answer{Err: err}
	}
	if a, known := l.last.of(c.Id); known {
		if a.command != c {
			return api.Answer{Err: api.ErrArg}
		}
		return a.answer
	}
	answer := l.decide(c)
	if answer.Err == api.OK {
		l.last.add(answered{c, answer})
		l.journal = append(l.journal, frame...)
	}
	return answer
}

// accepts does a command, and asks the journal, since the answer to one that was accepted already is OK too.
func (l *Ledger) accepts(c api.Command) bool {
	before := len(l.journal)
	l.Do(c)
	return len(l.journal) > before
}

// ATP tells what can be promised (P8).
func (l *Ledger) ATP(good int, day int) (int, api.Errno) {
	if !within(good, api.Goods) || !within(day, api.Days) {
		return 0, api.ErrArg
	}
	return l.goods[good].ATP(day, l.holds.Counting(good)), api.OK
}

// Free tells what is free of a channel's share (P8).
func (l *Ledger) Free(good int, channel int) (int, api.Errno) {
	if !within(good, api.Goods) || !within(channel, api.Channels) {
		return 0, api.ErrArg
	}
	return l.goods[good].Free(channel, l.holds.Counting(good)), api.OK
}

// Holds tells holds (P8).
func (l *Ledger) Holds(after int, n int) []api.Hold { return l.holds.After(after, n) }

// Ages tells how many holds are open, by how long they have been (P8).
func (l *Ledger) Ages() [api.Bands]int { return l.holds.Ages(l.now) }

// Now tells the time (P8).
func (l *Ledger) Now() int { return l.now }

// Journal tells all that was accepted (P8).
func (l *Ledger) Journal() string { return string(l.journal) }

func within(place, places int) bool { return 0 <= place && place < places }
