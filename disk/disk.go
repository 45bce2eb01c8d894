// Package disk: how a book lies on its disk. Each call that has changed the book is a record, and each record has a
// sector of its own, from sector 0 on in the order of the calls. No sector is written twice.
package disk

import "daybook/api"

// Size is all bytes of a disk.
const Size = api.Sectors * api.SectorSize

// flush is the sector of a write that is none.
const flush = -1

// Disk is what a book knows of its disk: how many sectors have a record, and what was done since it was last told.
type Disk struct {
	used   int
	writes []api.Write
}

// Lay writes a record behind the others, and flushes it. As a sector is never written in part, a crash leaves the
// record whole or leaves it out; and as all records ahead of it are flushed, it leaves no gap. There is room for each:
// MaxAccounts-1 accounts are opened and closed once, MaxPosts transactions posted, and Sectors is more than that.
func (d *Disk) Lay(r Record) {
	data := r.sector()
	d.writes = append(d.writes, api.Write{Sector: d.used, Data: data})
	d.writes = append(d.writes, api.Write{Sector: flush})
	d.used++
}

// Writes tells what was done to the disk since it was asked last (P11).
func (d *Disk) Writes() []api.Write {
	// the list becomes the caller's, so it is not the one that is written into
	var told []api.Write
	told = append(told, d.writes...)
	d.writes = nil
	return told
}

// Records takes each sector of an image for a record.
func Records(image string) []Record {
	var records []Record
	for end := api.SectorSize; end <= len(image); end += api.SectorSize {
		record := read(image[end-api.SectorSize : end])
		records = append(records, record)
	}
	return records
}

// Image is all bytes of a disk to which this, and nothing else, was done.
func Image(writes []api.Write) string {
	bytes := make([]byte, Size)
	for _, w := range writes {
		for i := 0; i < len(w.Data); i++ {
			place := w.Sector*api.SectorSize + i
			if place >= 0 && place < len(bytes) {
				bytes[place] = w.Data[i]
			}
		}
	}
	return string(bytes)
}
