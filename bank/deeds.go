package bank

import (
	"strconv"
	"strings"

	"quash/api"
)

// row is one kind of deed: which fields it has, what it does to the balances and tells, and the lines of its program between the begin and the commit.
type row struct {
	a, b, x bool
	do      func(l []int64, d api.Deed) int64
	text    func(base, n int, d api.Deed) string
}

// table has the row of each Op in the place of its number; that of 0, which is no deed, is empty.
func table() []row {
	return []row{
		api.BankPay: {
			a: true, x: true,
			do:   pay,
			text: func(base, _ int, d api.Deed) string { return fill(payText, base+d.A, base+d.A, int(d.X)) },
		},
		api.BankTake: {
			a: true, x: true,
			do:   ifThere(func([]int64, api.Deed) {}),
			text: ifThereText(func(int, api.Deed) string { return "" }),
		},
		api.BankMove: {
			a: true, b: true, x: true,
			do:   ifThere(func(l []int64, d api.Deed) { l[d.B] += d.X }),
			text: ifThereText(func(base int, d api.Deed) string { return fill(addText, base+d.B, base+d.B, int(d.X)) }),
		},
		api.BankSee: {
			a:    true,
			do:   func(l []int64, d api.Deed) int64 { return l[d.A] },
			text: func(base, _ int, d api.Deed) string { return fill(seeText, base+d.A) },
		},
		api.BankSum: {
			do:   sum,
			text: func(base, n int, _ api.Deed) string { return fill(sumText, base, base+n) },
		},
	}
}

// rowOf is that of a deed, if there is a bank of n accounts and the deed may be there.
func rowOf(n int, d api.Deed) (row, bool) {
	rows := table()
	if Room(n) == 0 || d.Op < api.BankPay || d.Op >= len(rows) {
		return row{}, false
	}
	r := rows[d.Op]
	last := int64(n - 1)
	may := mayBe(r.a, int64(d.A), last) && mayBe(r.b, int64(d.B), last) && mayBe(r.x, d.X, api.MaxPay) && d.Y == 0
	return r, may
}

// mayBe tells whether a field may hold v: if the deed has that field, 0 to most; else 0 alone.
func mayBe(has bool, v, most int64) bool {
	if !has {
		most = 0
	}
	return v >= 0 && v <= most
}

func pay(l []int64, d api.Deed) int64 {
	l[d.A] += d.X
	return l[d.A]
}

func sum(l []int64, _ api.Deed) int64 {
	var total int64
	for _, x := range l {
		total += x
	}
	return total
}

// ifThere takes what the deed asks for and goes on by rest, if there is enough of it, and tells whether there was.
func ifThere(rest func(l []int64, d api.Deed)) func(l []int64, d api.Deed) int64 {
	return func(l []int64, d api.Deed) int64 {
		if l[d.A] < d.X {
			return 0
		}
		l[d.A] -= d.X
		rest(l, d)
		return 1
	}
}

// ifThereText is the program of ifThere, with that of rest behind the taking.
func ifThereText(rest func(base int, d api.Deed) string) func(base, n int, d api.Deed) string {
	return func(base, _ int, d api.Deed) string {
		from, x := base+d.A, int(d.X)
		return fill(takeText, from, x, from, x) + rest(base, d) + outText
	}
}

// fill puts numbers into a text, each in the place of a #.
func fill(text string, numbers ...int) string {
	for _, n := range numbers {
		text = strings.Replace(text, "#", strconv.Itoa(n), 1)
	}
	return text
}

// The cell, the cell, what is paid.
const payText = `
	push #
	push #
	load
	push #
	add
	dup
	tell
	store
`

// The cell, what is taken, the cell, what is taken. Where there is not enough the program goes out, and has written nothing.
const takeText = `
	push #
	load
	set 0
	get 0
	push #
	less
	not
	dup
	tell
	zero out
	push #
	get 0
	push #
	sub
	store
`

// The cell, the cell, what is added. The cell may be that from which it was taken: so it is loaded behind that.
const addText = `
	push #
	push #
	load
	push #
	add
	store
`

const outText = `
out:
`

// The cell.
const seeText = `
	push #
	load
	tell
`

// The first cell, the one behind the last. The sum so far lies on the stack, the next cell's number in a local.
const sumText = `
	push 0
	push #
	set 0
more:
	get 0
	load
	add
	get 0
	push 1
	add
	dup
	set 0
	push #
	same
	zero more
	tell
`
