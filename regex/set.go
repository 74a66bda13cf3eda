package regex

// run is of bytes that stand side by side: first, last and all between.
type run struct {
	first, last byte
}

// put adds the bytes of a run to a set.
func put(set *[4]uint64, r run) {
	// An int, because a byte would wrap round behind 255.
	for c := int(r.first); c <= int(r.last); c++ {
		set[c>>6] |= 1 << (c & 63)
	}
}

// others is the set of all bytes that are not in the given one.
func others(set [4]uint64) [4]uint64 {
	for i := range set {
		set[i] = ^set[i]
	}
	return set
}

// single is the set of one byte.
func single(c byte) [4]uint64 {
	var set [4]uint64
	put(&set, run{c, c})
	return set
}

// dot is what `.` takes.
func dot() [4]uint64 { return others(single('\n')) }

// runs are those of a set, rising, each as long as it can be.
func runs(set [4]uint64) []run {
	var list []run
	for c := range 256 {
		b := byte(c)
		switch {
		case !Has(set, b):
		case c > 0 && Has(set, b-1):
			list[len(list)-1].last = b
		default:
			list = append(list, run{b, b})
		}
	}
	return list
}
