package disk

import (
	"bytes"
	"math/rand"
	"testing"

	"imprimatur/api"
)

// model is a disk as the chapter words it, slow and plain: what is read is worked out from the durable content and the pending writes.
type model struct {
	durable [][]byte
	sectors []int
	blocks  [][]byte
	limited bool
	left    int
}

func newModel(size int) *model {
	m := &model{}
	for range size {
		m.durable = append(m.durable, make([]byte, 64))
	}
	return m
}

func (m *model) read(n int) []byte {
	for i := len(m.sectors) - 1; i >= 0; i-- {
		if m.sectors[i] == n {
			return m.blocks[i]
		}
	}
	return m.durable[n]
}

func (m *model) write(n int, b api.Block) api.Errno {
	switch {
	case n < 0 || n >= len(m.durable):
		return api.ErrRange
	case m.limited && m.left == 0:
		return api.ErrFull
	}
	m.left--
	m.sectors = append(m.sectors, n)
	m.blocks = append(m.blocks, b[:])
	return api.OK
}

func (m *model) flush() {
	for i, n := range m.sectors {
		m.durable[n] = m.blocks[i]
	}
	m.sectors, m.blocks = nil, nil
}

func (m *model) limit(n int) { m.limited, m.left = n >= 0, n }

func (m *model) crash(picks []byte) int {
	count := 0
	for i, n := range m.sectors {
		p := 0
		if len(picks) > 0 {
			p = int(picks[i%len(picks)])
		}
		from, to := 0, 0
		switch p / 64 {
		case 1:
			to = 64
		case 2:
			to = p % 64
		case 3:
			from, to = 64-p%64, 64
		}
		torn := bytes.Clone(m.durable[n])
		for k := from; k < to; k++ {
			torn[k] = m.blocks[i][k]
		}
		m.durable[n] = torn
		if p >= 64 {
			count++
		}
	}
	m.sectors, m.blocks, m.limited = nil, nil, false
	return count
}

func (m *model) image() []byte {
	var image []byte
	for n := range m.durable {
		image = append(image, m.read(n)...)
	}
	return image
}

func (m *model) twin() *model {
	x := &model{}
	for n := range m.durable {
		x.durable = append(x.durable, bytes.Clone(m.read(n)))
	}
	return x
}

// same asks that a disk shows what its model shows.
func same(t *testing.T, d *Disk, m *model) {
	t.Helper()
	if d.Size() != len(m.durable) || d.Pending() != len(m.sectors) || !bytes.Equal(d.Image(), m.image()) {
		t.Fatal("size, pending or image", d.Size(), d.Pending())
	}
	for n := -1; n <= len(m.durable); n++ {
		b, e := d.Read(n)
		if n < 0 || n == len(m.durable) {
			if b != (api.Block{}) || e != api.ErrRange {
				t.Fatal("read", n, e)
			}
		} else if e != api.OK || !bytes.Equal(b[:], m.read(n)) {
			t.Fatal("read", n, e)
		}
	}
}

// play does what each script byte says with a disk and with its model, and holds one against the other.
func play(t *testing.T, size int, script []byte) {
	t.Helper()
	d, m := begin(t, size), newModel(size)
	for i, c := range script {
		arg := int(c) / 16
		switch c % 16 {
		case 0:
			d.Flush()
			m.flush()
		case 1:
			d.Limit(arg - 2)
			m.limit(arg - 2)
		case 2, 3:
			picks := script[i:min(i+arg, len(script))]
			if got, want := d.Crash(picks), m.crash(picks); got != want {
				t.Fatal("crash", got, want)
			}
		case 4:
			old, oldModel := d, m
			d, m = d.Twin(), m.twin()
			same(t, old, oldModel)
		case 5:
			n := arg - 8
			if got, want := d.Write(n, spread(i)), m.write(n, spread(i)); got != want {
				t.Fatal("write", n, got, want)
			}
		default:
			n := arg % size
			if got, want := d.Write(n, spread(i)), m.write(n, spread(i)); got != want {
				t.Fatal("write", n, got, want)
			}
		}
		same(t, d, m)
	}
}

// P3.1, P3.2, P3.3, P3.4: whatever is done in whatever order, a disk shows what the chapter says.
func TestAgainstModel(t *testing.T) {
	r := rand.New(rand.NewSource(31))
	for round := range 600 {
		script := make([]byte, r.Intn(200))
		r.Read(script)
		play(t, 1+round%6, script)
	}
}

// P1: no order of calls makes a disk panic or show anything else.
func FuzzDisk(f *testing.F) {
	f.Add(byte(2), []byte{6, 22, 38, 0, 6, 22, 66, 140, 64})
	f.Add(byte(0), []byte{33, 6, 6, 2, 6, 4, 6, 50, 200})
	f.Fuzz(func(t *testing.T, size byte, script []byte) {
		play(t, 1+int(size%8), script[:min(len(script), 300)])
	})
}
