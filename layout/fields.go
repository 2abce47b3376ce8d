package layout

import "anvil/api"

func appendNumber(b []byte, n, size int) []byte {
	for i := size - 1; i >= 0; i-- {
		b = append(b, byte(n>>(8*i)))
	}
	return b
}

// appendText takes 1+room bytes, however long the text is, so that the fields
// behind it stand at the same place.
func appendText(b []byte, text string, room int) []byte {
	b = append(b, byte(len(text)))
	b = append(b, text...)
	return append(b, make([]byte, room-len(text))...)
}

// appendCell takes 1+api.MaxValue bytes: its length is one more than the
// value's, so that nothing differs from the empty value.
func appendCell(b []byte, c api.Cell) []byte {
	at := len(b)
	b = appendText(b, c.Val, api.MaxValue)
	if c.Is {
		b[at]++
	}
	return b
}

// reader reads the fields of a body one behind the other. The bytes may be
// anybody's: bad is set by what no append function writes.
type reader struct {
	rest []byte
	bad  bool
}

func (r *reader) take(n int) []byte {
	b := r.rest[:n]
	r.rest = r.rest[n:]
	return b
}

func (r *reader) number(size int) int {
	n := 0
	for _, b := range r.take(size) {
		n = n<<8 | int(b)
	}
	return n
}

func (r *reader) chars(length, room int) string {
	b := r.take(room)
	if length > room {
		r.bad = true
		return ""
	}
	return string(b[:length])
}

func (r *reader) text(room int) string {
	return r.chars(r.number(1), room)
}

func (r *reader) cell() api.Cell {
	length := r.number(1)
	val := r.chars(max(length-1, 0), api.MaxValue)
	return api.Cell{Is: length > 0, Val: val}
}
