package command

import "larder/api"

// Right tells whether a command is right.
func Right(c api.Command) api.Errno {
	var needed api.Command
	for _, p := range partsOf(c.Kind) {
		number := *p.in(&c)
		if !p.takes(number) {
			return api.ErrArg
		}
		*p.in(&needed) = number
	}
	if needed != c { // something that the kind does not need is not 0
		return api.ErrArg
	}
	return api.OK
}

// Frame writes a command as bytes.
func Frame(c api.Command) (string, api.Errno) {
	if err := Right(c); err != api.OK {
		return "", err
	}
	parts := partsOf(c.Kind)
	frame := []byte{byte(widthOf(parts))}
	for _, p := range parts {
		frame = p.write(frame, *p.in(&c))
	}
	return string(frame), api.OK
}

// Unframe reads a command off the front of s, and tells how many bytes it has.
func Unframe(s string) (api.Command, int, api.Errno) {
	parts, size := head(s)
	if size == 0 || len(s) < size {
		return api.Command{}, 0, api.ErrJournal
	}
	c := read(parts, s[1:])
	if Right(c) != api.OK {
		return api.Command{}, 0, api.ErrJournal
	}
	return c, size, api.OK
}

// head tells, by the first two bytes of s, the parts of the frame and how many bytes it has; 0, if they are not there or do not agree.
func head(s string) ([]part, int) {
	if len(s) < 2 {
		return nil, 0
	}
	parts := partsOf(int(s[1]))
	width := widthOf(parts)
	if int(s[0]) != width {
		return nil, 0
	}
	return parts, 1 + width
}

func read(parts []part, s string) api.Command {
	var c api.Command
	for _, p := range parts {
		*p.in(&c) = p.read(s)
		s = s[p.width:]
	}
	return c
}

func (p part) write(frame []byte, number int) []byte {
	rest := number + p.lift
	for range p.width {
		frame = append(frame, byte(rest))
		rest >>= 8
	}
	return frame
}

func (p part) read(s string) int { return lowFirst(s[:p.width]) - p.lift }

func lowFirst(s string) int {
	number := 0
	for at := len(s) - 1; at >= 0; at-- {
		number = number<<8 + int(s[at])
	}
	return number
}
