package program

import "sluice/lattice"

// Write makes the text of a file. The bounds of its parts are the caller's to keep.
func Write(table lattice.Table, vars []byte, code []byte) string {
	text := []byte{'S', byte(table.Levels)}
	text = append(text, table.Text()...)
	text = append(text, byte(len(vars)))
	text = append(text, vars...)
	text = append(text, byte(len(code)/2))
	text = append(text, code...)
	return string(text)
}
