package curve

import (
	"luminaire/api"
	"luminaire/integer"
)

// sheet has a computation with integers. It keeps the first error, behind which it does nothing more.
type sheet struct{ e api.Errno }

// do returns the result of an operation on two integers.
func (x *sheet) do(operation func(a, b api.Int) (api.Int, api.Errno), a, b api.Int) (result api.Int) {
	if x.e == api.OK {
		result, x.e = operation(a, b)
	}
	return result
}

// sum returns the sum of two products, a b + c d.
func (x *sheet) sum(a, b, c, d api.Int) api.Int {
	return x.do(integer.Add, x.do(integer.Mul, a, b), x.do(integer.Mul, c, d))
}

// split returns the quotient and the remainder of two integers.
func (x *sheet) split(a, b api.Int) (quotient, remainder api.Int) {
	return x.do(integer.Quo, a, b), x.do(integer.Rem, a, b)
}
