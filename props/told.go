package props

import (
	"slices"

	"hornbook/api"
	"hornbook/uniset"
)

// told tells the set of a name, nothing of what is no name. It is new memory at
// each call, so that it may be handed out.
func told(name string) []api.Range {
	switch name {
	case "Any":
		return rangesOf(0, api.MaxRune)
	case "Digit":
		return rangesOf(0x30, 0x39, 0x660, 0x669)
	case "Upper":
		return rangesOf(0x41, 0x5A, 0xC0, 0xD6, 0xD8, 0xDE)
	case "Lower":
		return rangesOf(0x61, 0x7A, 0xDF, 0xF6, 0xF8, 0xFF)
	case "Letter":
		cased := uniset.Union(told("Upper"), told("Lower"))
		return uniset.Union(cased, rangesOf(0x370, 0x3FF, 0x400, 0x52F)) // ranges that touch are one
	case "Space":
		return rangesOf(0x9, 0xD, 0x20, 0x20, 0x85, 0x85, 0xA0, 0xA0, 0x2000, 0x200A, 0x2028, 0x2029, 0x3000, 0x3000)
	case "Mark":
		return rangesOf(0x300, 0x36F, 0x200D, 0x200D, 0xFE00, 0xFE0F)
	case "Punct":
		return rangesOf(0x21, 0x2F, 0x3A, 0x40, 0x5B, 0x60, 0x7B, 0x7E, 0x2010, 0x2027)
	case "Han":
		return rangesOf(0x4E00, 0x9FFF)
	case "Kana":
		return rangesOf(0x3040, 0x30FF)
	case "Emoji":
		return rangesOf(0x1F300, 0x1FAFF)
	}
	return nil
}

// rangesOf tells the ranges whose ends, the first and the last by turns, are
// handed over.
func rangesOf(ends ...int32) []api.Range {
	var ranges []api.Range
	for pair := range slices.Chunk(ends, 2) {
		ranges = append(ranges, api.Range{Lo: pair[0], Hi: pair[1]})
	}
	return ranges
}
