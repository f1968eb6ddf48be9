package wire

import (
	"bytes"
	"hash/adler32"
	"math"
	"slices"
	"testing"

	"fretwork/api"
	"fretwork/fault"
)

// is tells whether an error has a code and a place.
func is(e error, code, at int) bool { return fault.Code(e) == code && fault.At(e) == at }

func TestWriter(t *testing.T) {
	var w Writer
	if len(w.Bytes()) != 0 || w.Err() != nil {
		t.Error("P3.1: a zero writer")
	}
	w.Num(0x01020304)
	w.Num(math.MaxUint32)
	w.Long(-2)
	w.Text("ab")
	w.List([]int{7, 1 << 8})
	w.List(nil)
	w.Text("")
	want := []byte{1, 2, 3, 4, 255, 255, 255, 255, 255, 255, 255, 255, 255, 255, 255, 254,
		0, 0, 0, 2, 'a', 'b', 0, 0, 0, 2, 0, 0, 0, 7, 0, 0, 1, 0, 0, 0, 0, 0, 0, 0, 0, 0}
	b := w.Bytes()
	if !bytes.Equal(b, want) || w.Err() != nil {
		t.Errorf("P3.1: %v, %v", b, w.Err())
	}
	b[0] = 99
	if w.Bytes()[0] != 1 {
		t.Error("P3.1: bytes are new memory")
	}
}

func TestWriterRange(t *testing.T) {
	var w Writer
	w.Long(math.MinInt64)
	w.List([]int{1, -1, 1 << 32})
	if !is(w.Err(), api.Range, 16) {
		t.Errorf("P3.1: %v", w.Err())
	}
	w.Num(math.MinInt)
	w.Num(math.MaxInt)
	w.Num(5)
	if !is(w.Err(), api.Range, 16) {
		t.Error("P3.1: the first error stays")
	}
	want := []byte{128, 0, 0, 0, 0, 0, 0, 0, 0, 0, 0, 3, 0, 0, 0, 1, 0, 0, 0, 0, 0, 0, 0, 0,
		0, 0, 0, 0, 0, 0, 0, 0, 0, 0, 0, 5}
	if !bytes.Equal(w.Bytes(), want) {
		t.Errorf("P3.1: %v", w.Bytes())
	}
}

func TestNilWriter(t *testing.T) {
	var w *Writer
	w.Num(1)
	w.Long(1)
	w.Text("a")
	w.List([]int{1})
	w.List(nil)
	if w.Bytes() != nil || !is(w.Err(), api.Nil, 0) {
		t.Error("P3.1: a nil writer")
	}
}

func TestReader(t *testing.T) {
	var w Writer
	w.Num(math.MaxUint32)
	w.Long(math.MinInt64)
	w.Text("a\x00b")
	w.List([]int{3, 1, 2})
	w.List([]int{})
	w.Num(9)
	b := w.Bytes()
	r := NewReader(b)
	clear(b)
	if r.Left() != len(b) || r.Num() != math.MaxUint32 || r.Long() != math.MinInt64 || r.Text() != "a\x00b" ||
		!slices.Equal(r.List(3), []int{3, 1, 2}) || len(r.List(-5)) != 0 {
		t.Error("P3.2, P3.4: what is put is taken")
	}
	if r.Left() != 4 || !is(r.End(), api.Form, len(b)-4) {
		t.Errorf("P3.2: bytes are left: %v", r.End())
	}
	if r.Num() != 9 || r.End() != nil || r.Left() != 0 {
		t.Errorf("P3.2: the end: %v", r.End())
	}
	if r.Num() != 0 || !is(r.End(), api.End, len(b)) {
		t.Errorf("P3.2: behind the end: %v", r.End())
	}
}

func TestReaderErrors(t *testing.T) {
	lead := []byte{0, 0, 0, 1}
	for i, c := range []struct {
		rest []byte
		take func(r *Reader) bool
		code int
	}{
		{nil, func(r *Reader) bool { return r.Num() == 0 }, api.End},
		{[]byte{1, 2, 3}, func(r *Reader) bool { return r.Num() == 0 }, api.End},
		{[]byte{1, 2, 3, 4, 5, 6, 7}, func(r *Reader) bool { return r.Long() == 0 }, api.End},
		{[]byte{0, 0}, func(r *Reader) bool { return r.Text() == "" }, api.End},
		{[]byte{0, 0, 0, 2, 'a'}, func(r *Reader) bool { return r.Text() == "" }, api.End},
		{[]byte{255, 255, 255, 255, 'a'}, func(r *Reader) bool { return r.Text() == "" }, api.End},
		{[]byte{0, 0}, func(r *Reader) bool { return r.List(9) == nil }, api.End},
		{[]byte{0, 0, 0, 2, 0, 0, 0, 1, 0, 0, 0}, func(r *Reader) bool { return r.List(2) == nil }, api.End},
		{[]byte{0, 0, 0, 2, 0, 0, 0, 1, 0, 0, 0}, func(r *Reader) bool { return r.List(1) == nil }, api.Large},
		{[]byte{0, 0, 0, 1, 0, 0, 0, 1}, func(r *Reader) bool { return r.List(0) == nil }, api.Large},
		{[]byte{0, 0, 0, 1, 0, 0, 0, 1}, func(r *Reader) bool { return r.List(math.MinInt) == nil }, api.Large},
		{[]byte{255, 255, 255, 255, 1}, func(r *Reader) bool { return r.List(math.MaxInt) == nil }, api.End},
		{[]byte{255, 255, 255, 255, 1}, func(r *Reader) bool { return r.List(5) == nil }, api.Large},
	} {
		r := NewReader(append(slices.Clone(lead), c.rest...))
		if r.Num() != 1 || !c.take(r) || r.Left() != len(c.rest) || !is(r.End(), c.code, 4) {
			t.Errorf("P3.2: %d: %d left, %v", i, r.Left(), r.End())
		}
		if r.Num() != 0 || r.Long() != 0 || r.Text() != "" || r.List(9) != nil || r.Left() != len(c.rest) || !is(r.End(), c.code, 4) {
			t.Errorf("P3.2: %d: something is taken behind an error", i)
		}
	}
}

func TestNilReader(t *testing.T) {
	var r *Reader
	if r.Num() != 0 || r.Long() != 0 || r.Text() != "" || r.List(5) != nil || r.Left() != 0 || !is(r.End(), api.Nil, 0) {
		t.Error("P3.2: a nil reader")
	}
	if e := NewReader(nil); e.End() != nil || e.Left() != 0 {
		t.Error("P3.2: a reader of nothing")
	}
}

func TestSum(t *testing.T) {
	long := make([]byte, 1<<17)
	for i := range long {
		long[i] = byte(255 - i%3)
	}
	for _, b := range [][]byte{nil, {0}, {255}, []byte("Wikipedia"), long} {
		if Sum(b) != adler32.Checksum(b) {
			t.Errorf("P3.3: the sum of %d bytes", len(b))
		}
	}
	if Sum(nil) != 1 {
		t.Error("P3.3: the sum of no bytes")
	}
}

func TestPack(t *testing.T) {
	b := Pack(7, []byte("ab"))
	if !bytes.Equal(b[:11], []byte("FWRK\x07\x00\x00\x00\x02ab")) || len(b) != 15 || Sum(b[:11]) != uint32(get(b[11:])) {
		t.Errorf("P3.3: %v", b)
	}
	for _, body := range [][]byte{nil, {0}, []byte("FWRK"), make([]byte, 300)} {
		p := Pack(200, body)
		before := slices.Clone(p)
		kind, back, err := Unpack(p)
		if kind != 200 || !bytes.Equal(back, body) || err != nil {
			t.Errorf("P3.4: unpacked: %d %v %v", kind, back, err)
		}
		for i := range back {
			back[i]++
		}
		if !bytes.Equal(p, before) {
			t.Error("P3.3: a body is new memory")
		}
	}
}

func TestUnpackErrors(t *testing.T) {
	p := Pack(3, []byte("body"))
	badSum := slices.Clone(p)
	badSum[len(p)-1]++
	short := slices.Clone(p)
	short[8] = 3
	wide := slices.Clone(p)
	wide[5] = 255
	badMark := slices.Clone(wide)
	badMark[3] = 'L'
	for i, c := range []struct {
		b    []byte
		code int
	}{
		{nil, api.Form}, {p[:3], api.Form}, {[]byte("fwrk"), api.Form}, {badMark, api.Form},
		{p[:4], api.End}, {p[:12], api.End}, {p[:len(p)-1], api.End}, {wide, api.End},
		{append(slices.Clone(p), 0), api.Form}, {short, api.Form}, {append(slices.Clone(badSum), 0), api.Form},
		{badSum, api.Sum},
	} {
		kind, body, err := Unpack(c.b)
		if kind != 0 || body != nil || !is(err, c.code, 0) {
			t.Errorf("P3.3: %d: %v", i, err)
		}
	}
}

func TestUnpackShort(t *testing.T) {
	p := Pack(3, nil)
	for n := range p {
		want := api.End
		if n < 4 {
			want = api.Form
		}
		if _, body, err := Unpack(slices.Clip(slices.Clone(p[:n]))); body != nil || !is(err, want, 0) {
			t.Errorf("P3.3: %d bytes: %v", n, err)
		}
	}
}

func TestOneByteChanged(t *testing.T) {
	p := Pack(3, []byte("some body of a parcel"))
	for i := range p {
		for by := 1; by < 256; by++ {
			p[i] += byte(by)
			if _, _, err := Unpack(p); err == nil {
				t.Errorf("P3.4: byte %d, changed by %d", i, by)
			}
			p[i] -= byte(by)
		}
	}
}
