package layout

import "anvil/disk"

// Master is the master record. The start that wrote it is its stamp's.
type Master struct {
	Log  uint32 // the start that wrote the entries of the log
	Mode int    // the mode that it had
}

// MasterAt tells the sector of a copy of the master record.
func MasterAt(turn int) int { return turn }

// PackMaster makes the sector of a master record.
func PackMaster(s Stamp, m Master) disk.Block {
	b := appendNumber(nil, int(m.Log), 4)
	return seal(s, appendNumber(b, m.Mode, 1))
}

// UnpackMaster reads the sector of a master record: false, if it holds none.
func UnpackMaster(b disk.Block) (Stamp, Master, bool) {
	s, body, whole := unseal(b)
	if !whole {
		return Stamp{}, Master{}, false
	}
	r := reader{rest: body}
	return s, Master{Log: uint32(r.number(4)), Mode: r.number(1)}, true
}
