package pack

import (
	"ossuary/api"
	"ossuary/bits"
	"ossuary/canon"
	"ossuary/match"
)

// none is the panic of bits that are none of tokens.
type none struct{}

// reader takes one part of the bits behind the other. Each of its methods panics with none if there is no such part.
type reader struct {
	bits []bool
	at   int
}

func need(ok bool) {
	if !ok {
		panic(none{})
	}
}

// known lets a panic of another kind go on: that would be a fault of the program's, not of the bits.
func known(wrong any) {
	if _, ok := wrong.(none); !ok {
		panic(wrong)
	}
}

func (r *reader) number(width int) int {
	n, end, ok := bits.Take(r.bits, r.at, width)
	need(ok)
	r.at = end
	return n
}

// codes tells which symbol each code is.
func (r *reader) codes() map[api.Code]int {
	codes, ok := canon.Codes(r.lens())
	need(ok)
	symbols := map[api.Code]int{}
	for symbol, code := range codes {
		if code.Len > 0 {
			symbols[code] = symbol
		}
	}
	return symbols
}

// lens tells how long each symbol's code is, 0 of one that is not there.
func (r *reader) lens() []int {
	lens := make([]int, api.Symbols)
	ahead := -1
	for range r.number(manyBits) {
		symbol := r.number(symbolBits)
		need(symbol > ahead && symbol < api.Symbols)
		lens[symbol] = r.number(lengthBits)
		need(lens[symbol] > 0)
		ahead = symbol
	}
	return lens
}

// tokens takes tokens till they tell just so many bytes.
func (r *reader) tokens(symbols map[api.Code]int, many int) []api.Tok {
	var l []api.Tok
	told := 0
	for told < many {
		t := r.token(symbols)
		need(match.May(t) && t.Dist <= told)
		l = append(l, t)
		told += max(t.Len, 1)
	}
	need(told == many)
	return l
}

// token takes a token, perhaps one that may not be.
func (r *reader) token(symbols map[api.Code]int) api.Tok {
	symbol := r.symbol(symbols)
	if symbol < firstCopy {
		return api.Tok{Byte: symbol}
	}
	return api.Tok{Dist: r.number(distBits), Len: symbol - firstCopy + api.MinCopy}
}

// symbol takes a code bit by bit, till it is a symbol's: canon.Read would make all codes anew for each token.
func (r *reader) symbol(symbols map[api.Code]int) int {
	var code api.Code
	for code.Len < api.MaxCode {
		code = api.Code{Len: code.Len + 1, Bits: 2*code.Bits + r.number(1)}
		if symbol, ok := symbols[code]; ok {
			return symbol
		}
	}
	panic(none{})
}
