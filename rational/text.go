package rational

import (
	"strings"

	"waypoint/api"
	"waypoint/nat"
)

// Parse returns the number that is written as a string.
func Parse(s string) (Rat, api.Errno) {
	digits, negative := strings.CutPrefix(s, "-")
	numText, denText, isFraction := strings.Cut(digits, "/")
	if !isFraction {
		denText = "1"
	}
	num, numErr := nat.Parse(numText)
	den, denErr := nat.Parse(denText)
	if e := firstError(numErr, denErr); e != api.OK {
		return Rat{}, e
	}
	return Make(negative, num, den)
}

// Text returns the text of a number.
func Text(a Rat) string {
	text := nat.Text(a.num)
	if a.negative {
		text = "-" + text
	}
	if denText := nat.Text(Den(a)); denText != "1" {
		text += "/" + denText
	}
	return text
}

// firstError returns the error of a fraction whose parts have these errors. It is that of the wrong form, even if it is the second part that has it and the first one is too long.
func firstError(numErr, denErr api.Errno) api.Errno {
	if numErr == api.ErrSyntax || denErr == api.ErrSyntax {
		return api.ErrSyntax
	}
	if numErr != api.OK {
		return numErr
	}
	return denErr
}
