// Package larder: stock, and what is promised of it: see DOC.md.
package larder

import (
	"larder/api"
	"larder/command"
)

// Ledger has goods, holds and a journal.
type Ledger struct{}

// Right tells whether a command is right (P3).
func Right(c api.Command) api.Errno { return command.Right(c) }

// Frame writes a command (P3).
func Frame(c api.Command) (string, api.Errno) { return command.Frame(c) }

// Unframe reads a command off the front, and tells how many bytes it has (P4).
func Unframe(s string) (api.Command, int, api.Errno) { return command.Unframe(s) }

// New makes a ledger (P5).
func New() *Ledger { return nil }

// Open makes a ledger of a journal; if it is none, the number of the frame is told (P9).
func Open(journal string) (*Ledger, api.Errno, int) { return nil, api.OK, 0 }

// Do does a command (P5 to P7).
func (l *Ledger) Do(c api.Command) api.Answer { return api.Answer{} }

// ATP tells what can be promised (P8).
func (l *Ledger) ATP(good int, day int) (int, api.Errno) { return 0, api.OK }

// Free tells what is free of a channel's share (P8).
func (l *Ledger) Free(good int, channel int) (int, api.Errno) { return 0, api.OK }

// Holds tells holds (P8).
func (l *Ledger) Holds(after int, n int) []api.Hold { return nil }

// Ages tells how many holds are open, by how long they have been (P8).
func (l *Ledger) Ages() [api.Bands]int { return [api.Bands]int{} }

// Now tells the time (P8).
func (l *Ledger) Now() int { return 0 }

// Journal tells all that was accepted (P8).
func (l *Ledger) Journal() string { return "" }
