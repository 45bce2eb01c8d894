package disk

import (
	"strings"
	"testing"

	"daybook/api"
)

// records: of each kind, with the least and the greatest that a call may be handed.
func records() []Record {
	const most, id, day = api.MaxAmount, api.MaxId, api.MaxDay
	return []Record{
		{Kind: Opened, Number: 0}, {Kind: Opened, Number: api.MaxAccounts - 1}, {Kind: Closed, Number: 1}, {Kind: Closed, Number: api.MaxAccounts - 1},
		{Kind: Posted, Lines: []api.Line{{Account: 1, Amount: 1}, {Account: 2, Amount: -1}}},
		{Kind: Posted, Number: id, Day: day, Lines: []api.Line{{Account: 15, Amount: most}, {Account: 15, Amount: -most}, {Account: 14, Amount: -most}, {Account: 15, Amount: most}}},
		{Kind: Posted, Number: 255, Day: 256, Lines: []api.Line{{Account: 1, Amount: 65536}, {Account: 2, Amount: -65535}, {Account: 3, Amount: -1}}},
	}
}

func isSame(a, b Record) bool {
	if a.Kind != b.Kind || a.Number != b.Number || a.Day != b.Day || len(a.Lines) != len(b.Lines) {
		return false
	}
	for i := range a.Lines {
		if a.Lines[i] != b.Lines[i] {
			return false
		}
	}
	return true
}

func TestARecordIsReadAsItWasWritten(t *testing.T) {
	seen := map[string]bool{}
	for _, r := range records() {
		sector := r.sector()
		if len(sector) != api.SectorSize {
			t.Errorf("%v takes %d bytes", r, len(sector))
		}
		if got := read(sector); !isSame(got, r) {
			t.Errorf("%v is read as %v", r, got)
		}
		seen[sector] = true
	}
	if len(seen) != len(records()) || seen[strings.Repeat("\x00", api.SectorSize)] {
		t.Errorf("two records are written alike, or one like a sector that was never written")
	}
}

func TestAnySectorIsRead(t *testing.T) {
	for n := range 256 {
		for size := range 2 * api.SectorSize {
			read(strings.Repeat(string([]byte{byte(n)}), size))
		}
	}
	if r := read(strings.Repeat("\x00", api.SectorSize)); r.Kind != 0 {
		t.Errorf("a sector that was never written is read as %v", r)
	}
}

func TestThereIsRoomForAllRecords(t *testing.T) {
	if most := 2*(api.MaxAccounts-1) + api.MaxPosts; most > api.Sectors {
		t.Errorf("%d records, %d sectors", most, api.Sectors)
	}
}

func TestEachRecordIsWrittenBehindTheOthersAndFlushed(t *testing.T) {
	d := Disk{}
	for i, r := range records() {
		d.Lay(r)
		got := d.Writes()
		if len(got) != 2 || got[0] != (api.Write{Sector: i, Data: r.sector()}) || got[1] != (api.Write{Sector: -1}) {
			t.Errorf("P11: record %d: %#v", i, got)
		}
	}
	if got := d.Writes(); len(got) != 0 {
		t.Errorf("P11: Writes once more: %#v", got)
	}
}

func TestImageAndRecords(t *testing.T) {
	d := Disk{}
	for _, r := range records() {
		d.Lay(r)
	}
	image := Image(d.Writes())
	want := ""
	for _, r := range records() {
		want += r.sector()
	}
	want += strings.Repeat("\x00", Size-len(want))
	if image != want {
		t.Errorf("Image = %q, want %q", image, want)
	}
	got := Records(image)
	if len(got) != api.Sectors {
		t.Fatalf("%d records, want one for each sector", len(got))
	}
	for i, r := range got {
		if i < len(records()) && !isSame(r, records()[i]) || i >= len(records()) && r.Kind != 0 {
			t.Errorf("record %d: %v", i, r)
		}
	}
	if Image(nil) != strings.Repeat("\x00", Size) {
		t.Errorf("P11: at first not all bytes are 0")
	}
	last := api.Write{Sector: api.Sectors - 1, Data: strings.Repeat("b", api.SectorSize)}
	lower := api.Write{Sector: api.Sectors - 1, Data: strings.Repeat("a", api.SectorSize)}
	if got := Image([]api.Write{lower, {Sector: -1}, last}); got != strings.Repeat("\x00", Size-api.SectorSize)+last.Data {
		t.Errorf("of two writes of one sector the last counts")
	}
}
