package larder

import "larder/api"

// answered is a command that was accepted, and what was answered.
type answered struct {
	command api.Command
	answer  api.Answer
}

// lastAnswers has the newest in front; what is not taken yet is zero.
type lastAnswers [api.Last]answered

// of finds at most one: a command that has the Id of one of the last is never accepted beside it.
func (l *lastAnswers) of(id int) (answered, bool) {
	for _, a := range l {
		if a != (answered{}) && a.command.Id == id { // 0 is an Id too
			return a, true
		}
	}
	return answered{}, false
}

func (l *lastAnswers) add(a answered) {
	copy(l[1:], l[:])
	l[0] = a
}
