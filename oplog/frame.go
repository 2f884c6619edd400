package oplog

import (
	"offshoot/api"
	"offshoot/crc"
	"offshoot/num"
	"offshoot/op"
)

// compactSize is how many bytes a frame of a log that is written anew may have; fewer than others may, so that what was appended as one frame may become two.
const compactSize = 60000

// firstFrame: what the log of a replica begins with. None is refused: no ops are right, and a replica is a right number.
func firstFrame(replica int) []byte {
	body, _ := op.EncodeAll(nil)
	number, _ := num.Put(replica)
	b, _ := crc.Frame(append(body, number...))
	return b
}

// frame: ops as a frame.
func frame(list []api.Op) ([]byte, api.Errno) {
	body, ok := op.EncodeAll(list)
	if !ok || len(list) == 0 {
		return nil, api.ErrForm
	}
	b, ok := crc.Frame(body)
	if !ok {
		return nil, api.ErrFull
	}
	return b, api.OK
}

// parts: right ops, cut into those of one frame each, which is as great as may be. No part can grow into the next one's memory.
func parts(list []api.Op) [][]api.Op {
	var out [][]api.Op
	from, size := 0, 0
	for to, o := range list {
		more := textSize(o)
		if to > from && countSize(to+1-from)+size+more > compactSize {
			out = append(out, list[from:to:to])
			from, size = to, 0
		}
		size += more
	}
	if from < len(list) {
		out = append(out, list[from:len(list):len(list)])
	}
	return out
}

// textSize: how many bytes a right op takes among others.
func textSize(o api.Op) int {
	b, _ := op.Encode(o)
	return len(num.PutText(string(b)))
}

// countSize: how many bytes it takes to tell how many ops there are.
func countSize(n int) int {
	b, _ := num.Put(n)
	return len(b)
}
