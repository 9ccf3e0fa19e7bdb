// Package obj: see doc/01-obj.md.
package obj

import (
	"slices"

	"ropewalk/api"
)

// Name tells whether s is a name: 1 to api.MaxName letters (a to z), digits and _.
func Name(s string) bool {
	if len(s) < 1 || len(s) > api.MaxName {
		return false
	}
	// Byte by byte: no byte of a longer rune is one of these.
	for i := range len(s) {
		if !nameByte(s[i]) {
			return false
		}
	}
	return true
}

// Wide tells how many bytes a place of a kind has; 0: there is no such kind.
func Wide(kind int) int {
	switch kind {
	case api.Abs1, api.Rel1:
		return 1
	case api.Abs2, api.Rel2:
		return 2
	}
	return 0
}

// Long tells how many bytes a fragment takes.
func Long(f api.Frag) int {
	if f.Sect == api.Zero {
		return f.Size
	}
	return len(f.Bytes)
}

// Same tells whether all fields of two parts are alike; lists with nothing in them are, nil or not.
func Same(a, b api.Part) bool {
	return slices.EqualFunc(a.Frags, b.Frags, sameFrag) && slices.Equal(a.Defs, b.Defs)
}

// Check tells what is wrong with a part.
func Check(p api.Part) api.Errno {
	if len(p.Frags) > api.MaxFrags || len(p.Defs) > api.MaxDefs {
		return api.ErrMany
	}
	for _, f := range p.Frags {
		if e := checkFrag(f, len(p.Frags)); e != api.OK {
			return e
		}
	}
	for _, d := range p.Defs {
		if e := checkDef(d, p.Frags); e != api.OK {
			return e
		}
	}
	return api.OK
}

func nameByte(c byte) bool {
	return c >= 'a' && c <= 'z' || c >= '0' && c <= '9' || c == '_'
}

func alignment(n int) bool {
	return n == 1 || n == 2 || n == 4 || n == 8
}

func within(n, least, most int) bool {
	return n >= least && n <= most
}

func sameFrag(a, b api.Frag) bool {
	return a.Sect == b.Sect && a.Align == b.Align && a.Group == b.Group && a.Size == b.Size &&
		slices.Equal(a.Bytes, b.Bytes) && slices.Equal(a.Relocs, b.Relocs)
}

// checkFrag tells what is wrong with a fragment of a part that has frags of them.
func checkFrag(f api.Frag, frags int) api.Errno {
	switch {
	case !within(f.Sect, api.Code, api.Zero) || !alignment(f.Align):
		return api.ErrRange
	case f.Group != "" && !Name(f.Group):
		return api.ErrText
	case len(f.Bytes) > api.MaxBytes || len(f.Relocs) > api.MaxRelocs:
		return api.ErrMany
	case !formed(f):
		return api.ErrForm
	}
	check := placeChecker(len(f.Bytes), frags)
	for _, r := range f.Relocs {
		if e := check(r); e != api.OK {
			return e
		}
	}
	return api.OK
}

// formed tells whether a fragment has only what its section lets it have.
func formed(f api.Frag) bool {
	switch f.Sect {
	case api.Zero:
		return len(f.Bytes) == 0 && len(f.Relocs) == 0 && within(f.Size, 0, api.MaxBytes)
	case api.Text:
		return f.Size == 0 && len(f.Relocs) == 0
	}
	return f.Size == 0
}

// placeChecker makes a check of the places of one fragment, to be called in their order: it remembers where the place ahead ended.
func placeChecker(long, frags int) func(api.Reloc) api.Errno {
	end := 0
	return func(r api.Reloc) api.Errno {
		wide := Wide(r.Kind)
		// At is held against long less wide: At and wide might be more than an int holds.
		if wide == 0 || !within(r.At, end, long-wide) || !within(r.Add, -api.MaxAdd, api.MaxAdd) {
			return api.ErrRange
		}
		end = r.At + wide
		return checkTarget(r, frags)
	}
}

// checkTarget tells what is wrong with what a place leads to.
func checkTarget(r api.Reloc, frags int) api.Errno {
	if r.Name == "" {
		if !within(r.Frag, -1, frags-1) {
			return api.ErrWho
		}
		return api.OK
	}
	if !Name(r.Name) || r.Frag != 0 {
		return api.ErrText
	}
	return api.OK
}

func checkDef(d api.Def, frags []api.Frag) api.Errno {
	if !Name(d.Name) {
		return api.ErrText
	}
	switch d.Kind {
	case api.Strong, api.Weak:
		return checkPlaced(d, frags)
	case api.Common:
		return checkCommon(d)
	}
	return api.ErrForm
}

// checkPlaced tells what is wrong with a definition that stands in a fragment.
func checkPlaced(d api.Def, frags []api.Frag) api.Errno {
	if !within(d.Frag, 0, len(frags)-1) {
		return api.ErrWho
	}
	if !within(d.At, 0, Long(frags[d.Frag])) || d.Size != 0 || d.Align != 0 {
		return api.ErrRange
	}
	return api.OK
}

func checkCommon(d api.Def) api.Errno {
	if d.Frag != 0 || d.At != 0 || !within(d.Size, 1, api.MaxBytes) || !alignment(d.Align) {
		return api.ErrRange
	}
	return api.OK
}
