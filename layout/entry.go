package layout

import (
	"anvil/api"
	"anvil/disk"
)

// EntryAt tells the sector of the log's entry of this number, from 1 on.
func EntryAt(number int) int {
	return PageAt(api.Pages, 0) + number - 1
}

// PackEntry makes the sector of a log entry.
func PackEntry(s Stamp, e api.Entry) disk.Block {
	b := appendNumber(nil, e.Kind, 1)
	b = appendNumber(b, e.Tx, 1)
	b = appendNumber(b, e.Prev, 2)
	b = appendNumber(b, e.Next, 2)
	b = appendText(b, e.Key, api.MaxKey)
	b = appendCell(b, e.Old)
	b = appendCell(b, e.New)
	return seal(s, b)
}

// UnpackEntry reads the sector of a log entry: false, if it holds none.
func UnpackEntry(b disk.Block) (Stamp, api.Entry, bool) {
	s, body, whole := unseal(b)
	if !whole {
		return Stamp{}, api.Entry{}, false
	}
	r := reader{rest: body}
	e := api.Entry{Kind: r.number(1), Tx: r.number(1), Prev: r.number(2), Next: r.number(2)}
	e.Key, e.Old, e.New = r.text(api.MaxKey), r.cell(), r.cell()
	if r.bad {
		return Stamp{}, api.Entry{}, false
	}
	return s, e, true
}
