package ipdu

import "headgate/crc"

const digestSize = 4

// part is so many bytes of an encoding, and whether their digest follows them.
type part struct {
	bytes  int
	digest bool
}

func headPart(heads bool) part { return part{headSize, heads} }

// dataPart is the padded data, of which there is no digest if there is no data.
func dataPart(length int, datas bool) part {
	return part{(length + multiple - 1) / multiple * multiple, datas && length > 0}
}

// size is how many bytes the part has together with its digest.
func (x part) size() int {
	if x.digest {
		return x.bytes + digestSize
	}
	return x.bytes
}

// encode is the part whose bytes these are.
func (x part) encode(bytes string) string {
	if x.digest {
		return bytes + crc.Digest(bytes)
	}
	return bytes
}

// isBroken tells whether the whole part stands at the beginning of s, and its digest is not correct.
func (x part) isBroken(s string) bool {
	return x.digest && len(s) >= x.size() && !crc.Right(s[:x.bytes], s[x.bytes:x.size()])
}
