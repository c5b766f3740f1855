package bytes

// Reader has the bytes that stand behind its place, and whether it has failed. Once it has, it has no bytes.
type Reader struct {
	rest   []byte
	failed bool
}

// Read is a reader of b as it is now: it has a copy, so that nobody changes what it answers.
func Read(b []byte) *Reader {
	return &Reader{rest: longer(b, 0)}
}

// Short is the short that stands at the place.
func (r *Reader) Short() int {
	return int(get(r.take(shortSize)))
}

// Below is the short that stands at the place, if it is below limit.
func (r *Reader) Below(limit int) int {
	n := r.Short()
	if r.Failed() {
		return 0
	}
	if n >= limit {
		r.fail()
		return 0
	}
	return n
}

// Long is the long that stands at the place.
func (r *Reader) Long() int64 {
	return int64(get(r.take(longSize)))
}

// Text is the text that stands at the place.
func (r *Reader) Text() string {
	return string(r.take(r.Short()))
}

// Left is how many bytes stand behind the place.
func (r *Reader) Left() int {
	if r.Failed() {
		return 0
	}
	return len(r.rest)
}

// Failed tells whether the reader has failed, as a nil one has.
func (r *Reader) Failed() bool {
	return r == nil || r.failed
}

// Done tells whether all was read, and the reader hasn't failed.
func (r *Reader) Done() bool {
	return !r.Failed() && r.Left() == 0
}

// take goes behind the next so many bytes and answers them; no bytes, if the reader has failed or fails here.
func (r *Reader) take(size int) []byte {
	if r.Failed() {
		return nil
	}
	if size > len(r.rest) {
		r.fail()
		return nil
	}
	field := r.rest[:size]
	r.rest = r.rest[size:]
	return field
}

// fail lets go of the bytes too: nobody asks for them any more.
func (r *Reader) fail() {
	*r = Reader{failed: true}
}

// get is the number that the field says: 0, if it has no bytes.
func get(field []byte) uint64 {
	n := uint64(0)
	for _, b := range field {
		n = n<<8 | uint64(b)
	}
	return n
}
