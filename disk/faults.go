package disk

import "polder/api"

// Fail makes an operation that is to come fail.
func (d *Disk) Fail(kind, n int) api.Errno {
	if kind < api.FailRead || kind > api.FailFlush || n < 1 || n > api.MaxNumber {
		return api.ErrArg
	}
	d.toFail[kind] = n
	return api.OK
}

// Cut lets writes and flushes fail, when so many more were done, until a crash.
func (d *Disk) Cut(n int) api.Errno {
	if n < 0 || n > api.MaxNumber {
		return api.ErrArg
	}
	d.left = n
	return api.OK
}

// Crash is the power going, and coming back.
func (d *Disk) Crash(picks []int) {
	for k, at := range d.Dirty() {
		if k == len(picks) {
			break
		}
		l := d.versions[at]
		if p := remainder(picks[k], len(l)+1); p > 0 {
			d.durable[at] = l[p-1]
		}
	}
	clear(d.versions)
	clear(d.toFail[:])
	d.left = uncut
}

// remainder is 0 to by - 1, also that of a number below 0.
func remainder(n, by int) int {
	r := n % by
	if r < 0 {
		r += by
	}
	return r
}

// isDue counts an operation that nothing ahead has refused, and tells whether it is the one that was told to fail.
func (d *Disk) isDue(kind int) bool {
	if d.toFail[kind] == 0 {
		return false
	}
	d.toFail[kind]--
	return d.toFail[kind] == 0
}

// stops tells whether a write or a flush fails. It is counted ahead of the cut's being asked, as one that fails by the cut counts, too.
func (d *Disk) stops(kind int) bool {
	due := d.isDue(kind)
	return due || d.left == 0
}

// countDone brings a cut nearer: by writes and flushes that were done alone.
func (d *Disk) countDone() {
	if d.left > 0 {
		d.left--
	}
}
