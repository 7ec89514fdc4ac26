package program

import (
	"sluice/api"
	"sluice/lattice"
)

// split cuts a text into the parts of a file; false, if it is no file. It does
// not look at the order or at the code: their errors come behind all of this one.
func split(text string) (File, bool) {
	table, behindTable, ok := takeTable(text)
	if !ok {
		return File{}, false
	}
	vars, behindVars, ok := takeVars(behindTable, table.Levels)
	if !ok {
		return File{}, false
	}
	code, behindCode, ok := takeCode(behindVars)
	if !ok || behindCode != "" {
		return File{}, false
	}
	return File{Table: table, vars: vars, code: code}, true
}

func takeTable(text string) (lattice.Table, string, bool) {
	if len(text) < 2 || text[0] != 'S' {
		return lattice.Table{}, "", false
	}
	levels := int(text[1])
	if levels < 1 || levels > api.MaxLevels {
		return lattice.Table{}, "", false
	}
	bits, rest, ok := take(text[2:], levels*levels)
	if !ok {
		return lattice.Table{}, "", false
	}
	table, ok := lattice.Read(bits)
	if !ok {
		return lattice.Table{}, "", false
	}
	return table, rest, true
}

func takeVars(text string, levels int) (string, string, bool) {
	count, behindCount, ok := takeCount(text, api.MaxVars)
	if !ok {
		return "", "", false
	}
	vars, rest, ok := take(behindCount, count)
	if !ok {
		return "", "", false
	}
	for i := 0; i < len(vars); i++ {
		if int(vars[i]) >= levels {
			return "", "", false
		}
	}
	return vars, rest, true
}

func takeCode(text string) (string, string, bool) {
	count, behindCount, ok := takeCount(text, api.MaxCode)
	if !ok {
		return "", "", false
	}
	return take(behindCount, 2*count)
}

// takeCount cuts off a byte that tells how many of something follow.
func takeCount(text string, most int) (int, string, bool) {
	if len(text) == 0 || int(text[0]) > most {
		return 0, "", false
	}
	return int(text[0]), text[1:], true
}

// take cuts off the first bytes of a text; false, if it has fewer.
func take(text string, count int) (string, string, bool) {
	if count < 0 || count > len(text) {
		return "", "", false
	}
	return text[:count], text[count:], true
}
