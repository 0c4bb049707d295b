package larder_test

// The document's ledger, written out once more: it keeps nothing but the commands that were accepted and their answers, and works everything out from them, from the first on.

import "larder/api"

type model struct {
	accepted []api.Command
	answers  []api.Answer
}

// picture is all that can be asked of a ledger, so that two of them can be compared.
type picture struct {
	atp     [4][16]int
	free    [4][3]int
	made    int
	holds   [60]api.Hold
	ages    [3]int
	now     int
	journal string
}

// sums has what the accepted commands come to.
type sums struct {
	onHand  [4]int
	planned [4][16]int
	shares  [4][3]int
	now     int
	holds   []api.Hold
}

func (m *model) work() sums {
	var s sums
	for _, c := range m.accepted {
		switch c.Kind {
		case 1, 7:
			s.onHand[c.Good] += c.Quantity
		case 2:
			s.planned[c.Good][c.Day] += c.Quantity
		case 3:
			s.shares[c.Good][c.Channel] += c.Quantity
		case 4:
			h := api.Hold{Number: len(s.holds) + 1, Good: c.Good, Channel: c.Channel, Day: c.Day, Quantity: c.Quantity, Made: s.now, Ends: s.now + c.Ticks, State: 1}
			s.holds = append(s.holds, h)
		case 5, 6:
			s.holds[c.Hold-1].State = c.Kind - 3
		case 8:
			s.now += c.Ticks
			for i := range s.holds {
				if s.holds[i].State == 1 && s.holds[i].Ends <= s.now {
					s.holds[i].State = 4
				}
			}
		}
	}
	return s
}

func (s sums) atp(good, day int) int {
	least, found := 0, false
	for k := 15; k >= day; k-- {
		left := s.onHand[good]
		for d, n := range s.planned[good] {
			if d <= k {
				left += n
			}
		}
		for _, h := range s.holds {
			if h.Good == good && h.Day <= k && h.State <= 2 {
				left -= h.Quantity
			}
		}
		if !found || left < least {
			least, found = left, true
		}
	}
	return least
}

func (s sums) free(good, channel int) int {
	left := s.shares[good][channel]
	for _, h := range s.holds {
		if h.Good == good && h.Channel == channel && h.State <= 2 {
			left -= h.Quantity
		}
	}
	return left
}

func (m *model) picture() picture {
	s := m.work()
	p := picture{made: len(s.holds), now: s.now}
	copy(p.holds[:], s.holds)
	var journal []byte
	for _, c := range m.accepted {
		journal = append(journal, frameOf(c)...)
	}
	p.journal = string(journal)
	for g := range 4 {
		for d := range 16 {
			p.atp[g][d] = s.atp(g, d)
		}
		for c := range 3 {
			p.free[g][c] = s.free(g, c)
		}
	}
	for _, h := range s.holds {
		if age := s.now - h.Made; h.State == 1 && age <= 9 {
			p.ages[0]++
		} else if h.State == 1 && age <= 99 {
			p.ages[1]++
		} else if h.State == 1 {
			p.ages[2]++
		}
	}
	return p
}

func (m *model) do(c api.Command) api.Answer {
	if !isRight(c) {
		return api.Answer{Err: 1}
	}
	for i := max(0, len(m.accepted)-8); i < len(m.accepted); i++ {
		if m.accepted[i] == c {
			return m.answers[i]
		}
	}
	for i := max(0, len(m.accepted)-8); i < len(m.accepted); i++ {
		if m.accepted[i].Id == c.Id {
			return api.Answer{Err: 1}
		}
	}
	a := m.work().decide(c)
	if a.Err == 0 {
		m.accepted, m.answers = append(m.accepted, c), append(m.answers, a)
	}
	return a
}

func (s sums) decide(c api.Command) api.Answer {
	var a api.Answer
	switch c.Kind {
	case 1, 7:
		if n := s.onHand[c.Good] + c.Quantity; n > 1000000000 || c.Kind == 7 && n < -1000000000 {
			a.Err = 6
		}
	case 2:
		if s.planned[c.Good][c.Day]+c.Quantity > 1000000000 {
			a.Err = 6
		}
	case 3:
		if s.shares[c.Good][c.Channel]+c.Quantity > 1000000000 {
			a.Err = 6
		}
	case 4:
		if len(s.holds) == 60 {
			a.Err = 2
		} else if s.free(c.Good, c.Channel) < c.Quantity {
			a.Err = 4
		} else if s.atp(c.Good, c.Day) < c.Quantity {
			a.Err = 3
		} else {
			a.Hold = len(s.holds) + 1
		}
	case 5, 6:
		if c.Hold > len(s.holds) || s.holds[c.Hold-1].State != 1 {
			a.Err = 5
		}
	case 8:
		if s.now+c.Ticks > 1000000 {
			a.Err = 7
		}
	}
	return a
}
