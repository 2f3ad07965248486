package quill

import (
	"strings"

	"quill/api"
)

// lineEnd stands behind each line of a text's bytes.
const lineEnd = "\n"

// isLine tells whether a text may be a line.
func isLine(text string) bool {
	return len(text) <= api.MaxLine && !strings.Contains(text, lineEnd)
}

// cut cuts the bytes of a text into its lines, if they are some text's.
func cut(bytes string) ([]string, bool) {
	var lines []string
	for bytes != "" {
		line, rest, ended := strings.Cut(bytes, lineEnd)
		if !ended || !isLine(line) || len(lines) == api.MaxLines {
			return nil, false
		}
		lines = append(lines, line)
		bytes = rest
	}
	return lines, true
}

// isText tells whether these are the bytes of a text.
func isText(bytes string) bool {
	_, ok := cut(bytes)
	return ok
}

// put puts a line in at a place that there is. The document has its own copy: what a line was cut out of is not kept.
func (d *Doc) put(at int, line string) {
	d.lines.Insert(at, strings.Clone(line))
}

// Line tells a line (P4).
func (d *Doc) Line(at int) (string, api.Errno) {
	line, ok := d.lines.At(at)
	if !ok {
		return "", api.ErrArg
	}
	return line, api.OK
}

// Text tells all of them (P4).
func (d *Doc) Text() string {
	var text strings.Builder
	for line := range d.lines.All() {
		text.WriteString(line)
		text.WriteString(lineEnd)
	}
	return text.String()
}

// Insert puts a line in (P4).
func (d *Doc) Insert(at int, line string) api.Errno {
	switch {
	case d.busy():
		return api.ErrBusy
	case at < 0 || at > d.lines.Len():
		return api.ErrArg
	case !isLine(line):
		return api.ErrLine
	case d.lines.Len() == api.MaxLines:
		return api.ErrFull
	}
	d.put(at, line)
	d.edited()
	return api.OK
}

// Delete takes a line out (P4).
func (d *Doc) Delete(at int) api.Errno {
	switch {
	case d.busy():
		return api.ErrBusy
	case !d.lines.Delete(at):
		return api.ErrArg
	}
	d.edited()
	return api.OK
}

// Replace puts a line in the place of one (P4).
func (d *Doc) Replace(at int, line string) api.Errno {
	switch {
	case d.busy():
		return api.ErrBusy
	case at < 0 || at >= d.lines.Len():
		return api.ErrArg
	case !isLine(line):
		return api.ErrLine
	}
	d.lines.Set(at, strings.Clone(line))
	d.edited()
	return api.OK
}

// edited counts an edit that was done (P5).
func (d *Doc) edited() {
	d.edits++
	d.counted++
	if d.counted == d.every {
		d.beginSync()
	}
}
