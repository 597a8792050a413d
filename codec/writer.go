package codec

// writer collects the encodings of values, one behind the other.
type writer struct {
	written []byte
}

func (w *writer) number(n int) {
	u := unsigned(n)
	for ; u >= more; u >>= groupBits {
		w.written = append(w.written, byte(u)|more)
	}
	w.written = append(w.written, byte(u))
}

func (w *writer) text(s string) {
	w.number(len(s))
	w.written = append(w.written, s...)
}

// putList writes a list to w, for which put writes each element.
func putList[T any](w *writer, put func(T), l ...T) {
	w.number(len(l))
	for _, element := range l {
		put(element)
	}
}
