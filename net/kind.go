package net

import "bytes"

// What may befall a request.
const (
	FDrop  = 1 // nothing comes
	FCut   = 2 // the first N bytes
	FFlip  = 3 // the bit N turned
	FForge = 4 // Data in its place
	FLate  = 5 // it takes N ticks
	FGone  = 6 // as if there were no page
	FBusy  = 7 // the server has no time
)

// How a request went.
const (
	statusNothing = 0
	statusPage    = 200
	statusGone    = 404
	statusBusy    = 503
)

// effect makes of the answer that a request would get without a fault the one
// that it gets. The answer is the effect's own: it may change its bytes.
type effect func(honest Answer) Answer

// kind is a kind of fault.
type kind struct {
	anywhere bool // it needs no page
	effect   func(number int, data []byte) effect
}

// kinds is what each kind of fault does, by its number.
func kinds() map[int]kind {
	return map[int]kind{
		FDrop:  {anywhere: true, effect: tell(statusNothing)},
		FCut:   {effect: cut},
		FFlip:  {effect: flip},
		FForge: {anywhere: true, effect: forge},
		FLate:  {effect: late},
		FGone:  {anywhere: true, effect: tell(statusGone)},
		FBusy:  {anywhere: true, effect: tell(statusBusy)},
	}
}

// of is the effect of a fault of this kind. Nothing but what the kind needs of
// the fault stays in it.
func (k kind) of(f Fault) effect {
	befall := k.effect(f.N, f.Data)
	if k.anywhere {
		return befall
	}
	return func(honest Answer) Answer {
		if honest.Status != statusPage {
			return honest
		}
		return befall(honest)
	}
}

// tell is a kind that leaves nothing but a status.
func tell(status int) func(int, []byte) effect {
	return func(int, []byte) effect {
		return func(Answer) Answer { return bare(status) }
	}
}

func cut(count int, _ []byte) effect {
	return func(honest Answer) Answer {
		return whole(honest.Data[:min(count, len(honest.Data))])
	}
}

func flip(bit int, _ []byte) effect {
	return func(honest Answer) Answer {
		if place := bit / 8; place < len(honest.Data) {
			honest.Data[place] ^= 1 << (bit % 8)
		}
		return honest
	}
}

func forge(_ int, data []byte) effect {
	kept := bytes.Clone(data)
	return func(Answer) Answer { return whole(kept) }
}

func late(ticks int, _ []byte) effect {
	return func(honest Answer) Answer {
		honest.Ticks = ticks
		return honest
	}
}

// whole is a page's answer, with bytes of its own.
func whole(page []byte) Answer {
	return Answer{Status: statusPage, Data: bytes.Clone(page), Ticks: 1}
}

// bare is an answer without bytes.
func bare(status int) Answer { return Answer{Status: status, Ticks: 1} }
