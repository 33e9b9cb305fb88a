package cellar

import (
	"cellar/api"
	"cellar/journal"
)

// tell lays the entries of one change behind the file, as one record.
func (x *Store) tell(entries string) []api.Act {
	return []api.Act{{Kind: api.Append, File: x.file, Bytes: journal.Record(entries)}}
}

// move goes over to the other file, with no more bytes than what is held needs.
// The old file is made lasting first: else a crash could leave less in it than
// in the new one, and the two would not tell the same.
func (x *Store) move() []api.Act {
	from := x.file
	to := 1 - from
	x.file = to
	return []api.Act{
		{Kind: api.Sync, File: from},
		{Kind: api.Erase, File: to},
		{Kind: api.Append, File: to, Bytes: journal.All(x.held)},
		{Kind: api.Sync, File: to},
		{Kind: api.Erase, File: from},
	}
}
