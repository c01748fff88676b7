package plat

// sources is how many bits a set has. That of 0 is no source's.
const sources = 32

// every are all sources.
const every set = 1<<sources - 2

// set are sources, a bit for each.
type set uint32

// bit is a source's bit. What is no source has none.
func bit(src int) set {
	if src < 1 || src >= sources {
		return 0
	}
	return 1 << src
}

// lowest is the lowest source of a set, 0 of none.
func (s set) lowest() int {
	for src := range sources {
		if s&bit(src) != 0 {
			return src
		}
	}
	return 0
}
