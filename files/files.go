// Package files: files on a disk that have their name only when they are whole, and tell by themselves whether they still are.
package files

import (
	"errors"
	"strings"

	"quern/api"
	"quern/disk"
	"quern/fault"
)

const (
	// Draft is the name of the file that is being written; only one is at a time.
	Draft = "draft"
	// chunk is how many bytes wait till they go to the disk together: each of its calls may fail, so there should be few.
	chunk = 1 << 16
	// batch is how many names are taken away till that is made sure of: few, so that a disk on which only some calls go well each time comes to an end too.
	batch    = 4
	sealSign = "="
)

var (
	ErrAbsent = errors.New("there is no such file")
	ErrBroken = errors.New("the file is not as it was written")
	errFailed = errors.New("the disk has failed")
	errRoom   = errors.New("the disk has no room")
)

// File is what all files have in common: a name, how they begin, the sum of what is written, and how far they are written.
type File struct {
	disk    *disk.Disk
	name    string
	head    string
	sum     uint64
	written int
	waiting []byte // what is written, but not on the disk yet
}

// Of is the file of a name, which begins with a head that tells what it is; it need not be there.
func Of(d *disk.Disk, name string, head string) File {
	return File{disk: d, name: name, head: head}
}

// Begin begins to write the file, as a draft; a draft that lies about is gone.
func (f *File) Begin() error {
	if _, there := f.disk.Size(Draft); there && !f.disk.Remove(Draft) {
		return f.failed()
	}
	if !f.disk.Create(Draft) {
		return f.failed()
	}
	f.sum, f.written, f.waiting = sumStart, 0, nil
	return f.Write(f.head)
}

// Write puts a text behind what is written.
func (f *File) Write(text string) error {
	f.sum = sumOn(f.sum, text)
	f.written += len(text)
	f.waiting = append(f.waiting, text...)
	if len(f.waiting) < chunk {
		return nil
	}
	return f.flush()
}

// Seal ends what is written, behind a line feed, and makes sure of it. Only then the file has its name: a crash leaves it whole or not there.
func (f *File) Seal() error {
	if err := f.Write(sealOf(f.written, f.sum)); err != nil {
		return err
	}
	if err := f.flush(); err != nil {
		return err
	}
	if !f.disk.Sync(Draft) || !f.disk.Rename(Draft, f.name) {
		return f.failed()
	}
	return SyncNames(f.disk)
}

// flush puts what waits on the disk.
func (f *File) flush() error {
	many := len(f.waiting)
	if many == 0 || f.disk.Append(Draft, string(f.waiting)) {
		f.waiting = nil
		return nil
	}
	if !f.disk.Dead() && many > f.disk.Left() {
		return fault.New(api.ErrSpace, f.name, errRoom)
	}
	return f.failed()
}

// Load is what stands in the file between its head and its seal: ErrAbsent, if there is no file; ErrBroken, if it begins or ends otherwise, or has another sum.
func (f *File) Load() (string, error) {
	size, there := f.disk.Size(f.name)
	text, _ := f.disk.Read(f.name, 0, size)
	if f.disk.Dead() {
		return "", f.failed()
	}
	if !there {
		return "", fault.New(api.ErrAbsent, f.name, ErrAbsent)
	}
	f.written = strings.LastIndex(text, "\n"+sealSign) + 1
	f.sum = SumOf(text[:f.written])
	body, begins := strings.CutPrefix(text[:f.written], f.head)
	if !begins || text[f.written:] != sealOf(f.written, f.sum) {
		return "", f.Broken(ErrBroken)
	}
	return body, nil
}

// Broken is the fault that what stands in the file cannot be.
func (f *File) Broken(behind error) error { return fault.New(api.ErrCorrupt, f.name, behind) }

// failed is the fault that a call of the disk did nothing.
func (f *File) failed() error { return failed(f.name) }

func failed(where string) error { return fault.New(api.ErrDisk, where, errFailed) }

// RemoveAll takes files away, those of the names that are there, and makes sure of it.
func RemoveAll(d *disk.Disk, names []string) error {
	removed := 0
	for _, name := range names {
		if _, there := d.Size(name); !there {
			continue
		}
		if !d.Remove(name) {
			return failed(name)
		}
		removed++
		if removed%batch == 0 && !d.SyncDir() {
			return failed(name)
		}
	}
	// Names that were taken away earlier may still come back in a crash, so this is needed without any file too.
	return SyncNames(d)
}

// SyncNames makes sure of all that was done to names.
func SyncNames(d *disk.Disk) error {
	if !d.SyncDir() {
		return failed("the names")
	}
	return nil
}
