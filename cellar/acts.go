package cellar

import (
	"cellar/api"
	"cellar/journal"
	"cellar/run"
)

// tell lays the entries of one change behind the file, as one record.
func (x *Store) tell(entries string) []api.Act {
	return []api.Act{{Kind: api.Append, File: x.file, Bytes: journal.Record(entries)}}
}

// write changes the cells as a procedure left them, and tells all of it as one
// change.
func (x *Store) write(writes []run.Write) []api.Act {
	entries := ""
	for i := 0; i < len(writes); i++ {
		entries += x.writeCell(writes[i])
	}
	if entries == "" {
		return nil
	}
	return x.tell(entries)
}

// writeCell gives the entry of the cell's change. A cell that stays as it was
// has none: the bytes of a change are bounded by the cells that it changes.
func (x *Store) writeCell(write run.Write) string {
	value, there, _ := x.held.Get(write.Key)
	if there == write.There && value == write.Value {
		return ""
	}
	if write.There {
		x.held.Put(write.Key, write.Value)
		return journal.Put(write.Key, write.Value)
	}
	x.held.Del(write.Key)
	return journal.Del(write.Key)
}

// move goes over to the other file, with no more bytes than what is held needs.
// The old file is made lasting first: else a crash could leave less in it than
// in the new one, and the two would not tell the same.
func (x *Store) move() []api.Act {
	from := x.file
	to := 1 - from
	x.file = to
	return []api.Act{
		{Kind: api.Sync, File: from},
		{Kind: api.Erase, File: to},
		{Kind: api.Append, File: to, Bytes: journal.All(x.held)},
		{Kind: api.Sync, File: to},
		{Kind: api.Erase, File: from},
	}
}
