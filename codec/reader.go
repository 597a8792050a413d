package codec

// reader takes values from the beginning of an encoding. Its methods tell whether there is such a value; if not, they leave rest anywhere, as nothing more is read.
type reader struct {
	rest []byte
}

func (r *reader) number() (int, bool) {
	var u uint64
	for k, group := range r.rest {
		bits, shift := uint64(group%more), groupBits*k
		if bits<<shift>>shift != bits { // more than an int needs
			return 0, false
		}
		u |= bits << shift
		if group < more {
			r.rest = r.rest[k+1:]
			leading := bits == 0 && k > 0
			return signed(u), !leading
		}
	}
	return 0, false
}

// length reads how many bytes of a string, or elements of a list, follow. It accepts no more than there are bytes, as each element has at least one; so no memory is reserved for what is not there.
func (r *reader) length() (int, bool) {
	n, ok := r.number()
	return n, ok && n >= 0 && n <= len(r.rest)
}

func (r *reader) text() (string, bool) {
	n, ok := r.length()
	if !ok {
		return "", false
	}
	s := string(r.rest[:n])
	r.rest = r.rest[n:]
	return s, true
}

// getList reads a list from r, for which get reads each element.
func getList[T any](r *reader, get func() (T, bool)) ([]T, bool) {
	n, ok := r.length()
	if !ok {
		return nil, false
	}
	l := make([]T, n)
	for k := range l {
		if l[k], ok = get(); !ok {
			return nil, false
		}
	}
	return l, true
}
