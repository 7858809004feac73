package pool

import (
	"slices"

	"potsherd/api"
	"potsherd/block"
	"potsherd/plan"
	"potsherd/wear"
)

// choice picks one of the blocks that are in, by their counts (none, where none is in).
type choice func(counts []int, in []bool) int

// write tells where the sheet stands then.
func (p *Pool) write(b []byte) (api.Spot, api.Errno) {
	for {
		if err := p.begin(); err != api.OK {
			return api.Spot{}, err
		}
		at := api.Spot{Block: p.open, Page: p.chip.Block(p.open).Next}
		err := p.chip.Program(at, b)
		if err == api.OK {
			return at, api.OK
		}
		if err = p.passed(err); err != api.OK {
			return api.Spot{}, err
		}
	}
}

// begin sees to it that there is an open block.
func (p *Pool) begin() api.Errno {
	p.shut()
	for p.open == none {
		if len(block.Cleans(p.chip.Blocks())) > plan.Floor(p.g, p.Bads()) {
			p.open = p.clean(wear.Coldest)
			return api.OK
		}
		if err := p.empty(); err != api.OK {
			return err
		}
	}
	return api.OK
}

// shut comes ahead of all that erases: a block that is full, or bad, is not to be spared there as the open one.
func (p *Pool) shut() {
	if p.open != none && block.Left(p.chip.Block(p.open), p.g.Pages) == 0 {
		p.open = none
	}
}

// empty erases a block without live or new pages, or else a victim, whose pages stand in the open block then.
func (p *Pool) empty() api.Errno {
	victim := p.fewest()
	if victim == none {
		// Only where more is live than a Seal can name: no block has room, and none can be made.
		return api.ErrRead
	}
	if p.held(victim) > 0 {
		to, err := p.move(victim, wear.Coldest)
		if err != api.OK {
			return err
		}
		p.open = to
	}
	if err := p.passed(p.chip.Erase(victim)); err != api.OK {
		return err
	}
	return p.level()
}

// fewest is the block, neither bad nor clean, with the fewest live and new pages; of several the coldest one, so that wear has less to do.
func (p *Pool) fewest() int {
	l := p.chip.Blocks()
	at, few := none, p.g.Pages
	for i, b := range l {
		if b.Bad || block.Clean(b) {
			continue
		}
		n := p.held(i)
		if n < few || n == few && at != none && b.Count < l[at].Count {
			at, few = i, n
		}
	}
	return at
}

// level erases blocks that are behind the others, as long as there is one.
func (p *Pool) level() api.Errno {
	// So many are enough where counts were even; where power cuts left them far apart, more would cost more than a call may.
	for range p.g.Blocks + 2 {
		due := p.due()
		// Where what it holds can't be moved, the sheet may have room all the same.
		if due == none || p.held(due) > 0 && p.clean(wear.Hottest) == none {
			return api.OK
		}
		if err := p.renew(due); err != api.OK {
			return err
		}
	}
	return api.OK
}

func (p *Pool) due() int {
	l := p.chip.Blocks()
	in := block.Good(l)
	if p.open != none {
		in[p.open] = false
	}
	return wear.Due(block.Counts(l), in, p.g.Wear)
}

// renew puts what rests in a cold block into a hot one, so that the cold one is used again.
func (p *Pool) renew(due int) api.Errno {
	if p.held(due) > 0 {
		if _, err := p.move(due, wear.Hottest); err != api.OK {
			return err
		}
	}
	return p.passed(p.chip.Erase(due))
}

// move copies the live and new pages of a block, as they are, into a clean one; where that fails, all of them into another one.
func (p *Pool) move(from int, pick choice) (int, api.Errno) {
	l := slices.Concat(p.live.In(from), p.fresh.In(from))
	pages, err := p.pages(l)
	if err != api.OK {
		return none, err
	}
	for {
		to := p.clean(pick)
		if to == none {
			// Only on a chip that had fewer clean blocks than it must have when the pool was opened.
			return none, api.ErrRead
		}
		err := p.fill(to, pages)
		if err == api.OK {
			p.settle(l, to)
			return to, api.OK
		}
		if err = p.passed(err); err != api.OK {
			return none, err
		}
	}
}

// pages reads each page once, however often it is programmed then.
func (p *Pool) pages(l []api.Found) ([][]byte, api.Errno) {
	var pages [][]byte
	for _, f := range l {
		b, err := p.chip.Read(f.Spot)
		if err != api.OK {
			return nil, err
		}
		pages = append(pages, b)
	}
	return pages, api.OK
}

func (p *Pool) fill(to int, pages [][]byte) api.Errno {
	for i, b := range pages {
		if err := p.chip.Program(api.Spot{Block: to, Page: i}, b); err != api.OK {
			return err
		}
	}
	return api.OK
}

// settle comes ahead of the erase of where they were: also where that fails, they stand here.
func (p *Pool) settle(l []api.Found, to int) {
	for i, f := range l {
		t := p.live
		if _, ok := p.fresh.On(f.Spot); ok {
			t = p.fresh
		}
		t.Put(f.Ref, api.Spot{Block: to, Page: i})
	}
}

// passed lets a failure go by, as long as it is not one too many.
func (p *Pool) passed(err api.Errno) api.Errno {
	if err != api.ErrBad {
		return err
	}
	if p.Over() {
		return api.ErrRead
	}
	return api.OK
}

// clean is a block that is, and is not open.
func (p *Pool) clean(pick choice) int {
	l := p.chip.Blocks()
	in := make([]bool, len(l))
	for _, i := range block.Cleans(l) {
		in[i] = i != p.open
	}
	return pick(block.Counts(l), in)
}

// held is how many pages must outlive a block.
func (p *Pool) held(i int) int {
	return p.live.Live(i) + p.fresh.Live(i)
}
