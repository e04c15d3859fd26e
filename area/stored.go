package area

import (
	"imprimatur/api"
	"imprimatur/disk"
	"imprimatur/seal"
)

const headSize = 4 // bytes of a head's record

// fresh: the area that is begun next, still without records and without a head.
func fresh(d *disk.Disk) *Area {
	half := d.Size() / 2
	first := 0
	if now := current(d); now != nil && now.first == 0 {
		first = half
	}
	// Torn sectors count too, and a sector that belongs to no area: no sector of the new generation may stand anywhere.
	gen := 1 + seal.Highest(sectors(d, 0, d.Size())...)
	return &Area{d: d, first: first, size: half, gen: gen, next: 1}
}

// current: the disk's current area; nil if no area is valid.
func current(d *disk.Disk) *Area {
	first, second := stored(d, 0), stored(d, d.Size()/2)
	if second == nil || first != nil && first.gen > second.gen {
		return first
	}
	return second
}

// stored: the area that has its head in a sector of the disk, with its records; nil if it is not valid.
func stored(d *disk.Disk, first int) *Area {
	list := sectors(d, first, d.Size()/2)
	gen, used, ok := unpackHead(list[0])
	if !ok {
		return nil
	}
	a := &Area{d: d, first: first, size: len(list), gen: gen, next: 1, stuck: true}
	valid := used == 0
	for {
		rec, n, ok := seal.Unpack(list[a.next:], gen, a.next)
		if !ok {
			break
		}
		a.records = append(a.records, rec)
		a.next += n
		valid = valid || a.next == 1+used
	}
	if !valid {
		return nil
	}
	return a
}

// sectors: so many of the disk's sectors, from one on.
func sectors(d *disk.Disk, from, count int) []api.Block {
	list := make([]api.Block, count)
	for i := range list {
		list[i], _ = d.Read(from + i)
	}
	return list
}

// packHead: the head of an area that begins with so many sectors behind it; false if there is no such generation.
func packHead(gen, used int) ([]api.Block, bool) {
	rec := make([]byte, headSize)
	for i := range rec {
		rec[i] = byte(used >> (8 * (headSize - 1 - i)))
	}
	return seal.Pack(gen, 0, rec)
}

// unpackHead: the generation and the number of sectors behind it that a head tells; false if the sector is no head.
func unpackHead(b api.Block) (gen, used int, ok bool) {
	gen, _, _ = seal.Mark(b)
	rec, _, ok := seal.Unpack([]api.Block{b}, gen, 0)
	if !ok || len(rec) != headSize {
		return 0, 0, false
	}
	for _, x := range rec {
		used = used<<8 | int(x)
	}
	return gen, used, true
}
