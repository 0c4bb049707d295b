package command

import "larder/api"

// Torn tells whether s is some first bytes of a frame of a right command, but not all of it; no bytes at all are such too.
func Torn(s string) bool {
	switch len(s) {
	case 0:
		return true
	case 1: // the kind is not there yet: any that has this length will do
		return isWidth(int(s[0]))
	}
	parts, size := head(s)
	return len(s) < size && canGoOn(parts, s[1:])
}

func isWidth(width int) bool {
	for kind := api.Receive; kind <= api.Tick; kind++ {
		if widthOf(partsOf(kind)) == width {
			return true
		}
	}
	return false
}

// canGoOn looks at each part by itself, since the bounds of none hang on another.
func canGoOn(parts []part, s string) bool {
	for _, p := range parts {
		has := min(p.width, len(s))
		if !p.canBegin(s[:has]) {
			return false
		}
		s = s[has:]
	}
	return true
}

// canBegin asks only for the least number, from the lower bound on, that has s as its low bytes: where that is the 0 which a change may not be, the next is out of bounds too, as these lie equally far from 0.
func (p part) canBegin(s string) bool {
	step := 1 << (8 * len(s))
	least := p.low + (lowFirst(s)-p.lift-p.low)&(step-1)
	return p.takes(least)
}
