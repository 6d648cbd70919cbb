package ber

import "roster/api"

const (
	maxTag    = tagMask - 1
	maxLength = 1<<(8*longBytes) - 1 // what a length can say
)

// Write writes a tree in its shortest form; with an error the number of the first node at fault.
func Write(nodes []api.Node) (string, api.Errno, int) {
	if err, at := checkTree(nodes); err != api.OK {
		return "", err, at
	}
	lengths, total, err := measure(nodes)
	if err != api.OK {
		return "", err, 0
	}
	out := make([]byte, 0, total)
	for i, n := range nodes {
		out = putHeader(out, n.Class, n.Made, n.Tag, lengths[i])
		out = append(out, n.Body...)
	}
	return string(out), api.OK, 0
}

// Join writes one element in its shortest form.
func Join(e api.Elem) (string, api.Errno) {
	if !writable(e.Class, e.Tag) {
		return "", api.ErrNode
	}
	if tooLong(len(e.Body)) {
		return "", api.ErrBig
	}
	out := make([]byte, 0, headerSize(len(e.Body))+len(e.Body))
	out = putHeader(out, e.Class, e.Made, e.Tag, len(e.Body))
	return string(append(out, e.Body...)), api.OK
}

// checkTree answers why nodes is no tree that can be written, and the number of the first node at fault.
func checkTree(nodes []api.Node) (api.Errno, int) {
	if len(nodes) == 0 {
		return api.ErrNode, 0
	}
	least, most := 1, 1
	for i, n := range nodes {
		if n.Depth < least || n.Depth > most || !writable(n.Class, n.Tag) || n.Made && n.Body != "" {
			return api.ErrNode, i
		}
		if n.Depth > api.MaxNest {
			return api.ErrDepth, i
		}
		least, most = 2, n.Depth
		if n.Made {
			most++
		}
	}
	return api.OK, 0
}

func writable(class api.Class, tag int) bool {
	return class >= api.Universal && class <= api.Private && tag >= 0 && tag <= maxTag
}

func tooLong(length int) bool { return length > maxLength }

// measure answers the length of each node's content in a tree, and that of the whole.
func measure(nodes []api.Node) (lengths []int, total int, err api.Errno) {
	lengths = make([]int, len(nodes))
	// From the last node on: open[d] is the bytes at depth d whose holder stands further ahead.
	var open [api.MaxNest + 2]int
	for i := len(nodes) - 1; i >= 0; i-- {
		d := nodes[i].Depth
		length := len(nodes[i].Body) + open[d+1]
		if tooLong(length) {
			return nil, 0, api.ErrBig
		}
		open[d+1] = 0
		open[d] += headerSize(length) + length
		lengths[i] = length
	}
	return lengths, open[1], api.OK
}

// longLength is how many bytes follow the length byte in the shortest form of a length.
func longLength(length int) int {
	switch {
	case length < longMark:
		return 0
	case length < 1<<8:
		return 1
	case length < 1<<16:
		return 2
	case length < 1<<24:
		return 3
	}
	return longBytes
}

func headerSize(length int) int { return 2 + longLength(length) }

func putHeader(out []byte, class api.Class, made bool, tag, length int) []byte {
	first := byte(class)<<classShift | byte(tag)
	if made {
		first |= madeBit
	}
	return putLength(append(out, first), length)
}

func putLength(out []byte, length int) []byte {
	more := longLength(length)
	if more > 0 {
		out = append(out, longMark|byte(more))
	}
	switch more {
	case 4:
		out = append(out, byte(length>>24))
		fallthrough
	case 3:
		out = append(out, byte(length>>16))
		fallthrough
	case 2:
		out = append(out, byte(length>>8))
		fallthrough
	default:
		out = append(out, byte(length))
	}
	return out
}
