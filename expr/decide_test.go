package expr_test

import (
	"testing"

	"bailiff/api"
	"bailiff/fun"
)

// P12.1: errors and what decides, P12.3

// ofTwo is what must come of an Op of two things: a thing that is an error has no value.
func ofTwo(op int, a, b thing) (api.Value, api.Errno) {
	switch {
	case op == api.NAnd && (a.want == boolean(0) || b.want == boolean(0)):
		return boolean(0), api.OK
	case op == api.NOr && (a.want == boolean(1) || b.want == boolean(1)):
		return boolean(1), api.OK
	case a.err != api.OK:
		return api.Value{}, a.err
	case b.err != api.OK:
		return api.Value{}, b.err
	}
	return fun.Call(op, a.want, b.want)
}

func TestThings(t *testing.T) {
	for _, a := range things() {
		are(t, "a thing", a.l, around(), a.want, a.err)
	}
}

func TestEachOpOfEachTwo(t *testing.T) {
	g := around()
	for _, a := range things() {
		for _, b := range things() {
			for _, op := range pairs() {
				want, err := ofTwo(op, a, b)
				are(t, "of two", do(op, a.l, b.l), g, want, err)
			}
		}
	}
}

func TestNotOfEach(t *testing.T) {
	for _, a := range things() {
		want, err := api.Value{}, a.err
		if err == api.OK {
			want, err = fun.Call(api.NNot, a.want)
		}
		are(t, "not", do(api.NNot, a.l), around(), want, err)
		if err == api.OK {
			want, err = fun.Call(api.NNot, want)
		}
		are(t, "not not", do(api.NNot, do(api.NNot, a.l)), around(), want, err)
	}
}

// A bag's error is told ahead of the value's; of a bag without an error the value's is told, whatever is in it.
func TestHasOfEach(t *testing.T) {
	g := around()
	for _, a := range things() {
		for name, bag := range map[string][]api.Value{"none": nil, "other": nil, "several": wholes(1, 2), "alone": wholes(7), "yes": {boolean(1)}, "no": {boolean(0)}} {
			want := truth(has(bag, a.want))
			if a.err != api.OK {
				want = api.Value{}
			}
			are(t, "has", do(api.NHas, of(name), a.l), g, want, a.err)
			if len(bag) > 0 {
				are(t, "has, with Must", do(api.NHas, must(name), a.l), g, want, a.err)
			} else {
				fails(t, "has, of an error", do(api.NHas, must(name), a.l), g, api.ErrMissing)
			}
		}
	}
}

// The errors written out: which one is told, and where none is.
func TestErrorsWrittenOut(t *testing.T) {
	missing, over, kind, wrong := one(of("none")), numbers(api.NAdd, 1<<63-1, 1), do(api.NNot, lit(whole(0))), do(api.NNot, bad(boolean(2)))
	yes, no, seven := lit(boolean(1)), lit(boolean(0)), lit(whole(7))
	g := around()
	for _, op := range pairs() {
		fails(t, "two errors", do(op, missing, over), g, api.ErrMissing)
		fails(t, "two errors", do(op, over, missing), g, api.ErrOver)
		fails(t, "two errors", do(op, kind, wrong), g, api.ErrType)
		fails(t, "two errors", do(op, wrong, kind), g, api.ErrArg)
		fails(t, "an error, and a kind that doesn't fit", do(op, seven, over), g, api.ErrOver)
		fails(t, "an error, and a kind that doesn't fit", do(op, missing, lit(id("a"))), g, api.ErrMissing)
		fails(t, "an error, and what isn't right", do(op, over, bad(api.Value{})), g, api.ErrOver)
		fails(t, "an error, and what isn't right", do(op, bad(api.Value{}), over), g, api.ErrOver)
		fails(t, "what isn't right, and a kind that doesn't fit", do(op, bad(api.Value{}), lit(id("a"))), g, api.ErrArg)
		fails(t, "three errors", do(op, do(op, missing, over), kind), g, api.ErrMissing)
		fails(t, "three errors", do(op, over, do(op, missing, kind)), g, api.ErrOver)
	}
	for _, e := range []thing{{l: missing, err: api.ErrMissing}, {l: over, err: api.ErrOver}, {l: kind, err: api.ErrType}, {l: wrong, err: api.ErrArg}} {
		comes(t, "false decides", do(api.NAnd, e.l, no), g, boolean(0))
		comes(t, "false decides", do(api.NAnd, no, e.l), g, boolean(0))
		comes(t, "true decides", do(api.NOr, e.l, yes), g, boolean(1))
		comes(t, "true decides", do(api.NOr, yes, e.l), g, boolean(1))
		fails(t, "true doesn't decide", do(api.NAnd, e.l, yes), g, e.err)
		fails(t, "true doesn't decide", do(api.NAnd, yes, e.l), g, e.err)
		fails(t, "false doesn't decide", do(api.NOr, e.l, no), g, e.err)
		fails(t, "false doesn't decide", do(api.NOr, no, e.l), g, e.err)
		fails(t, "no truth", do(api.NAnd, e.l, seven), g, e.err)
		fails(t, "no truth", do(api.NOr, seven, e.l), g, e.err)
		fails(t, "one that is decided, within", do(api.NEq, do(api.NAnd, e.l, no), e.l), g, e.err)
		comes(t, "one that is decided, within", do(api.NNot, do(api.NOr, yes, e.l)), g, boolean(0))
		comes(t, "decided at last", do(api.NAnd, do(api.NNot, do(api.NOr, e.l, no)), no), g, boolean(0))
	}
	// What decides is the truth alone: no number or text like it, none that isn't right.
	for _, v := range []api.Value{whole(0), whole(1), tick(0), tick(1), text(""), text("false"), text("true"), id("false"), id("true")} {
		fails(t, "and", do(api.NAnd, lit(v), yes), g, api.ErrType)
		fails(t, "and", do(api.NAnd, over, lit(v)), g, api.ErrOver)
		fails(t, "or", do(api.NOr, no, lit(v)), g, api.ErrType)
		fails(t, "or", do(api.NOr, lit(v), over), g, api.ErrOver)
		comes(t, "and false", do(api.NAnd, lit(v), no), g, boolean(0))
		comes(t, "true or", do(api.NOr, yes, lit(v)), g, boolean(1))
	}
	for _, v := range badValues() {
		fails(t, "and", do(api.NAnd, bad(v), yes), g, api.ErrArg)
		fails(t, "and", do(api.NAnd, yes, bad(v)), g, api.ErrArg)
		fails(t, "or", do(api.NOr, bad(v), no), g, api.ErrArg)
		fails(t, "or", do(api.NOr, no, bad(v)), g, api.ErrArg)
		comes(t, "and false", do(api.NAnd, bad(v), no), g, boolean(0))
		comes(t, "true or", do(api.NOr, yes, bad(v)), g, boolean(1))
	}
}
