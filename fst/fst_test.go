package fst

import (
	"math"
	"testing"

	"fareway/api"
)

func good() api.Fst {
	return api.Fst{States: 3, Start: 1, Final: []int{api.None, 0, 7}, Arcs: []api.Arc{
		arc(0, 0, 0, 1, 0), arc(0, 1, 2, 2, 5), arc(1, 2, 0, 0, 1), arc(1, 2, 1, 0, 4), arc(1, 2, 1, 2, 4),
	}}
}

// A1: each fault, and the edges on both sides of it.
func TestCheckTellsEachFault(t *testing.T) {
	for name, c := range map[string]struct {
		change func(*api.Fst)
		want   api.Errno
	}{
		"nothing":              {func(f *api.Fst) {}, api.OK},
		"states 0":             {func(f *api.Fst) { f.States = 0 }, api.ErrRange},
		"states below 0":       {func(f *api.Fst) { f.States = -3 }, api.ErrRange},
		"states 201":           {func(f *api.Fst) { f.States = 201; f.Final = make([]int, 201) }, api.ErrRange},
		"states 200":           {func(f *api.Fst) { f.States = 200; f.Final = make([]int, 200) }, api.OK},
		"states 1":             {func(f *api.Fst) { *f = api.Fst{States: 1, Final: []int{0}} }, api.OK},
		"states least":         {func(f *api.Fst) { f.States = math.MinInt }, api.ErrRange},
		"states most":          {func(f *api.Fst) { f.States = math.MaxInt }, api.ErrRange},
		"start below 0":        {func(f *api.Fst) { f.Start = -1 }, api.ErrNone},
		"start 0":              {func(f *api.Fst) { f.Start = 0 }, api.OK},
		"start the last":       {func(f *api.Fst) { f.Start = 2 }, api.OK},
		"start behind it":      {func(f *api.Fst) { f.Start = 3 }, api.ErrNone},
		"start most":           {func(f *api.Fst) { f.Start = math.MaxInt }, api.ErrNone},
		"no final":             {func(f *api.Fst) { f.Final = nil }, api.ErrForm},
		"one final less":       {func(f *api.Fst) { f.Final = f.Final[:2] }, api.ErrForm},
		"one final more":       {func(f *api.Fst) { f.Final = append(f.Final, 0) }, api.ErrForm},
		"final below None":     {func(f *api.Fst) { f.Final[2] = -2 }, api.ErrRange},
		"final greatest":       {func(f *api.Fst) { f.Final[2] = api.MaxWeight }, api.OK},
		"final too great":      {func(f *api.Fst) { f.Final[2] = api.MaxWeight + 1 }, api.ErrRange},
		"no arcs":              {func(f *api.Fst) { f.Arcs = nil }, api.OK},
		"arcs 3000":            {func(f *api.Fst) { *f = full() }, api.OK},
		"arcs 3001":            {func(f *api.Fst) { *f = full(); f.Arcs = append(f.Arcs, arc(199, 9, 9, 199, 0)) }, api.ErrMany},
		"from below 0":         {func(f *api.Fst) { f.Arcs[0].From = -1 }, api.ErrNone},
		"from no state":        {func(f *api.Fst) { f.Arcs[4].From = 3 }, api.ErrNone},
		"to below 0":           {func(f *api.Fst) { f.Arcs[0].To = -1 }, api.ErrNone},
		"to no state":          {func(f *api.Fst) { f.Arcs[4].To = 3 }, api.ErrNone},
		"in below 0":           {func(f *api.Fst) { f.Arcs[0].In = -1 }, api.ErrRange},
		"in 9":                 {func(f *api.Fst) { f.Arcs[4].In = 9 }, api.OK},
		"in 10":                {func(f *api.Fst) { f.Arcs[4].In = 10 }, api.ErrRange},
		"out below 0":          {func(f *api.Fst) { f.Arcs[0].Out = -1 }, api.ErrRange},
		"out 9":                {func(f *api.Fst) { f.Arcs[4].Out = 9 }, api.OK},
		"out 10":               {func(f *api.Fst) { f.Arcs[4].Out = 10 }, api.ErrRange},
		"weight None":          {func(f *api.Fst) { f.Arcs[4].Weight = api.None }, api.ErrRange},
		"weight greatest":      {func(f *api.Fst) { f.Arcs[4].Weight = api.MaxWeight }, api.OK},
		"weight too great":     {func(f *api.Fst) { f.Arcs[4].Weight = api.MaxWeight + 1 }, api.ErrRange},
		"order by from":        {func(f *api.Fst) { f.Arcs[1], f.Arcs[2] = f.Arcs[2], f.Arcs[1] }, api.ErrState},
		"order by in":          {func(f *api.Fst) { f.Arcs[0], f.Arcs[1] = f.Arcs[1], f.Arcs[0] }, api.ErrState},
		"order by out":         {func(f *api.Fst) { f.Arcs[2], f.Arcs[3] = f.Arcs[3], f.Arcs[2] }, api.ErrState},
		"order by to":          {func(f *api.Fst) { f.Arcs[3], f.Arcs[4] = f.Arcs[4], f.Arcs[3] }, api.ErrState},
		"twice":                {func(f *api.Fst) { f.Arcs[4] = f.Arcs[3] }, api.ErrState},
		"twice, other weight":  {func(f *api.Fst) { f.Arcs[4] = f.Arcs[3]; f.Arcs[4].Weight = 9 }, api.ErrState},
		"from ahead of in":     {func(f *api.Fst) { f.Arcs[1].In = 9 }, api.OK},
		"in ahead of out":      {func(f *api.Fst) { f.Arcs[0].Out = 9 }, api.OK},
		"out ahead of to":      {func(f *api.Fst) { f.Arcs[2].To = 2 }, api.OK},
		"weight does not tell": {func(f *api.Fst) { f.Arcs[3].Weight = 9 }, api.OK},
	} {
		f := good()
		c.change(&f)
		if e := Check(f); e != c.want {
			t.Errorf("%s: it is %d and must be %d", name, e, c.want)
		}
	}
}

// A1, P1: of several faults the one that is named first; of arcs the first one that has any.
func TestCheckTellsTheFirstFault(t *testing.T) {
	bad := good()
	bad.States, bad.Start, bad.Final = 201, 300, []int{-2}
	bad.Arcs = append(make([]api.Arc, 0, 3001), arc(9, 10, 0, 0, 0))
	for len(bad.Arcs) < 3001 {
		bad.Arcs = append(bad.Arcs, arc(0, 0, 0, 0, 0))
	}
	mend := []struct {
		want api.Errno
		do   func()
	}{
		{api.ErrRange, func() { bad.States = 2 }},
		{api.ErrNone, func() { bad.Start = 0 }},
		{api.ErrForm, func() { bad.Final = []int{-2, 0} }},
		{api.ErrRange, func() { bad.Final[0] = api.None }},
		{api.ErrMany, func() { bad.Arcs = bad.Arcs[:3] }},
		{api.ErrNone, func() { bad.Arcs[0].From = 1 }},
		{api.ErrRange, func() { bad.Arcs[0].In = 3 }},
		{api.ErrState, func() { bad.Arcs[0] = arc(0, 0, 0, 0, 1); bad.Arcs[1] = arc(0, 0, 0, 1, 0) }},
		{api.ErrState, func() { bad.Arcs = bad.Arcs[:2] }},
	}
	for i, m := range mend {
		if e := Check(bad); e != m.want {
			t.Errorf("%d: it is %d and must be %d", i, e, m.want)
		}
		m.do()
	}
	if e := Check(bad); e != api.OK {
		t.Errorf("mended: it is %d", e)
	}
	f := good()
	f.Arcs[1].In, f.Arcs[2].To = 10, 3
	if e := Check(f); e != api.ErrRange {
		t.Errorf("an earlier arc's range, a later one's state: it is %d", e)
	}
	f = good()
	f.Arcs[1], f.Arcs[2].To = f.Arcs[0], 3
	if e := Check(f); e != api.ErrState {
		t.Errorf("an earlier arc's place, a later one's state: it is %d", e)
	}
	f = good()
	f.Arcs[2] = arc(0, 0, 0, 1, -1)
	if e := Check(f); e != api.ErrRange {
		t.Errorf("an arc's range and place: it is %d", e)
	}
}
