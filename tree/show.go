package tree

import (
	"strconv"
	"strings"
)

// Show tells a node, with all within it, as text.
func (f *Forest) Show(number int) (string, error) {
	if err := f.find(number); err != nil {
		return "", err
	}
	var out strings.Builder
	f.write(&out, number)
	return out.String(), nil
}

func (f *Forest) write(out *strings.Builder, number int) {
	if f.nodes[number].isText {
		out.WriteString(strconv.Itoa(number))
		writeQuoted(out, f.nodes[number].characters)
		return
	}
	out.WriteByte('<')
	out.WriteString(strconv.Itoa(number))
	for _, child := range f.nodes[number].children {
		out.WriteByte(' ')
		f.write(out, child)
	}
	out.WriteByte('>')
}

func writeQuoted(out *strings.Builder, characters string) {
	out.WriteByte('\'')
	for _, c := range characters {
		if c == '\'' || c == '\\' {
			out.WriteByte('\\')
		}
		out.WriteRune(c)
	}
	out.WriteByte('\'')
}
