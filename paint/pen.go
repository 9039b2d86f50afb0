package paint

import (
	"strconv"

	"casement/api"
)

// change is one change of a pen: it adds the number that it needs, or none.
type change func(add func(number int))

// penChange tells what makes one pen another: from it on, or from the plain pen on, whichever takes fewer bytes.
func penChange(from, to api.Pen) string {
	if from == to {
		return ""
	}
	onward := sequence("m", numbers(nil, from, to)...)
	anew := sequence("m", numbers([]string{""}, api.Pen{}, to)...)
	if len(anew) < len(onward) {
		return anew
	}
	return onward
}

// numbers tells the numbers that were told already, and those of all changes from one pen to another.
func numbers(told []string, from, to api.Pen) []string {
	changes := []change{
		flag(from.Bold, to.Bold, 1, 22),
		flag(from.Under, to.Under, 4, 24),
		flag(from.Reverse, to.Reverse, 7, 27),
		colour(from.Front, to.Front, 30),
		colour(from.Back, to.Back, 40),
	}
	for _, c := range changes {
		c(func(number int) { told = append(told, strconv.Itoa(number)) })
	}
	return told
}

// flag is the change of something that a pen has or has not.
func flag(was, is bool, on, off int) change {
	return func(add func(number int)) {
		switch {
		case is && !was:
			add(on)
		case was && !is:
			add(off)
		}
	}
}

// colour is the change of a colour; first is the number of colour 1.
func colour(was, is, first int) change {
	return func(add func(number int)) {
		switch {
		case is == was:
		case is == 0:
			add(first + 9)
		default:
			add(first + is - 1)
		}
	}
}
