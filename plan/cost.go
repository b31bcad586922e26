package plan

import (
	"math"
	"math/bits"

	"scout/api"
	"scout/query"
)

// sizeOf tells about how many rows come out of a part.
func sizeOf(f query.Facts, p Part, inputs []Part) uint64 {
	if makesOutput(p.Kind) {
		return inputs[0].Size
	}
	product := uint64(1)
	for source := range p.Sources.Rising {
		product = times(product, f.Rows[source])
	}
	if product == 0 {
		return 0
	}
	size := product
	for clause := range p.Clauses.Rising {
		size /= f.Parts[clause]
	}
	return max(size, 1)
}

// costOf tells what a part of known size costs, all below it counted in.
func costOf(p Part, inputs []Part) uint64 {
	if p.Kind == api.Scan {
		return sum(p.Size, 1)
	}
	left := inputs[0]
	l, s := left.Size, p.Size
	switch p.Kind {
	case api.Loop, api.Hash, api.Merge:
		right := inputs[1]
		return sum(left.Cost, right.Cost, joinWork(p.Kind, l, right.Size, s))
	case api.Sort, api.Arrange:
		return sum(left.Cost, sortWork(l))
	case api.Group:
		return sum(left.Cost, l, l)
	}
	return sum(left.Cost, l)
}

func joinWork(kind int, l, r, s uint64) uint64 {
	switch kind {
	case api.Hash:
		return sum(l, r, r, s)
	case api.Merge:
		return sum(l, r, s)
	}
	return times(l, r)
}

func sortWork(l uint64) uint64 {
	return times(l, uint64(bits.Len64(l))+1)
}

// sum is the greatest number there is, where it would be greater.
func sum(numbers ...uint64) uint64 {
	total := uint64(0)
	for _, n := range numbers {
		if n > math.MaxUint64-total {
			return math.MaxUint64
		}
		total += n
	}
	return total
}

// times is the greatest number there is, where it would be greater.
func times(a, b uint64) uint64 {
	high, low := bits.Mul64(a, b)
	if high > 0 {
		return math.MaxUint64
	}
	return low
}
