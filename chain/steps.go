package chain

import (
	"iter"
	"slices"

	"hornbook/api"
	"hornbook/tag"
)

// above goes through the tags that a tag leads to, the nearest first.
func above(t string) iter.Seq[string] {
	return func(yield func(string) bool) {
		for up := tag.Parent(t); up != ""; up = tag.Parent(up) {
			if !yield(up) {
				return
			}
		}
	}
}

// next is Next, but for memory that may be another's.
func (f *Forest) next(locale string) (string, bool, api.Errno) {
	to, isThere := f.parents.of(locale)
	switch {
	case !isThere:
		return "", false, api.ErrNone
	case to.isNamed && !f.Has(to.parent):
		return "", false, api.ErrParent
	case to.isNamed:
		return to.parent, true, api.OK
	}
	for up := range above(locale) {
		if f.Has(up) {
			return up, true, api.OK
		}
	}
	return "", false, api.OK
}

// steps goes from a locale to its next one, and so on, each of them with OK. If
// that doesn't come to an end as it should, the error is last, with no locale.
func (f *Forest) steps(locale string) iter.Seq2[string, api.Errno] {
	return func(yield func(string, api.Errno) bool) {
		if !f.Has(locale) {
			yield("", api.ErrNone)
			return
		}
		var met []string
		one, more, err := locale, true, api.OK
		for more && err == api.OK {
			if !yield(one, api.OK) {
				return
			}
			met = append(met, one)
			if one, more, err = f.next(one); more {
				err = roomFor(one, met)
			}
		}
		if err != api.OK {
			yield("", err)
		}
	}
}

// roomFor tells why one can't come behind those that were met: that it is one
// of them is told first.
func roomFor(one string, met []string) api.Errno {
	switch {
	case slices.Contains(met, one):
		return api.ErrCycle
	case len(met) >= api.MaxChain:
		return api.ErrChain
	}
	return api.OK
}
