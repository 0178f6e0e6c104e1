package fs

import (
	"testing"

	"mews/api"
)

// What no promise needs any more is not kept: a file that has neither a name
// nor a durable one, nor gets one by a pending change; a change that is done.
func TestKept(t *testing.T) {
	f := New(100)
	for i := range 50 {
		for _, e := range []api.Errno{
			f.Write("new", []byte("x")), f.Sync("new"), f.Rename("new", "name"), f.SyncDir(""),
			f.Write("d/gone", nil), f.Remove("d/gone"), f.SyncDir("d"),
		} {
			if e != api.OK {
				t.Fatal(e)
			}
		}
		if len(f.files) != 1 || len(f.pending) != 0 {
			t.Fatalf("round %d: %d files, %d changes are kept", i, len(f.files), len(f.pending))
		}
	}
	f.Write("a", nil)
	f.Write("a", nil)
	if len(f.files) != 3 || len(f.pending) != 2 {
		t.Errorf("pending: %d files, %d changes", len(f.files), len(f.pending))
	}
	f.Crash(1, 0)
	if len(f.files) != 2 || len(f.pending) != 0 {
		t.Errorf("behind a crash: %d files, %d changes are kept", len(f.files), len(f.pending))
	}
}
