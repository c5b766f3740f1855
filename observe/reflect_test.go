package observe_test

import (
	"math"
	"reflect"
	"slices"
)

// around are numbers at and around each edge that the chapter names.
var around = []int64{math.MinInt64, -2, -1, 0, 1, 2, 3, 4, 5, 28, 1 << 32, math.MaxInt64}

// each changes one number, name, truth or list in what v points to, asks, and changes it back, for each of them in all ways.
func each(v any, ask func()) {
	eachOf(reflect.ValueOf(v).Elem(), ask)
}

func eachOf(v reflect.Value, ask func()) {
	before := reflect.ValueOf(v.Interface())
	try := func(other reflect.Value) {
		v.Set(other)
		ask()
		v.Set(before)
	}
	switch v.Kind() {
	case reflect.Int, reflect.Int64:
		for _, n := range append(around, before.Int()-1, before.Int()+1) {
			if n != before.Int() {
				try(reflect.ValueOf(n).Convert(v.Type()))
			}
		}
	case reflect.Bool:
		try(reflect.ValueOf(!before.Bool()))
	case reflect.String:
		for _, s := range []string{"", "other", before.String() + "x", "9", "\xff"} {
			try(reflect.ValueOf(s))
		}
	case reflect.Struct:
		for i := range v.NumField() {
			eachOf(v.Field(i), ask)
		}
	case reflect.Slice:
		eachOfList(v, before, try)
		for i := range v.Len() {
			eachOf(v.Index(i), ask)
		}
	}
}

// eachOfList tries lists with one member less, one more, and two in the other order.
func eachOfList(v, before reflect.Value, try func(other reflect.Value)) {
	zero := reflect.New(v.Type().Elem()).Elem()
	try(reflect.Append(fresh(before), zero))
	if before.Len() == 0 {
		return
	}
	try(reflect.Append(fresh(before), before.Index(0)))
	try(fresh(before.Slice(1, before.Len())))
	try(fresh(before.Slice(0, before.Len()-1)))
	if other := fresh(before); before.Len() > 1 && !reflect.DeepEqual(before.Index(0).Interface(), before.Index(1).Interface()) {
		other.Index(0).Set(before.Index(1))
		other.Index(1).Set(before.Index(0))
		try(other)
	}
}

// fresh is a list in memory of its own.
func fresh(list reflect.Value) reflect.Value {
	return reflect.AppendSlice(reflect.MakeSlice(list.Type(), 0, list.Len()), list)
}

// roomy is v in lists that are all new and have spare room with something in it.
func roomy[T any](v T) T {
	made := reflect.New(reflect.TypeOf(v)).Elem()
	made.Set(roomyOf(reflect.ValueOf(v)))
	return made.Interface().(T)
}

func roomyOf(v reflect.Value) reflect.Value {
	made := reflect.New(v.Type()).Elem()
	switch v.Kind() {
	case reflect.Struct:
		for i := range v.NumField() {
			made.Field(i).Set(roomyOf(v.Field(i)))
		}
	case reflect.Slice:
		list := reflect.MakeSlice(v.Type(), v.Len()+2, v.Len()+2)
		for i := range v.Len() {
			list.Index(i).Set(roomyOf(v.Index(i)))
		}
		fill(list.Index(v.Len()))
		fill(list.Index(v.Len() + 1))
		made.Set(list.Slice(0, v.Len()))
	default:
		made.Set(v)
	}
	return made
}

// fill puts something into the first number, name or truth that it comes to.
func fill(v reflect.Value) {
	switch v.Kind() {
	case reflect.Int, reflect.Int64:
		v.SetInt(77)
	case reflect.Uint8:
		v.SetUint(77)
	case reflect.Bool:
		v.SetBool(true)
	case reflect.String:
		v.SetString("spare")
	case reflect.Struct:
		for i := range v.NumField() {
			fill(v.Field(i))
		}
	}
}

// whole is v with all spare room seen, in memory of its own.
func whole(v any) any {
	return wholeOf(reflect.ValueOf(v)).Interface()
}

func wholeOf(v reflect.Value) reflect.Value {
	made := reflect.New(v.Type()).Elem()
	switch v.Kind() {
	case reflect.Struct:
		for i := range v.NumField() {
			made.Field(i).Set(wholeOf(v.Field(i)))
		}
	case reflect.Slice:
		for i := range v.Cap() {
			made.Set(reflect.Append(made, wholeOf(v.Slice(0, v.Cap()).Index(i))))
		}
	default:
		made.Set(v)
	}
	return made
}

// stretch is memory that a list has, from its first byte to behind its last one.
type stretch struct{ from, to uintptr }

// stretches are those of all lists in v, spare room too.
func stretches(v any) []stretch {
	var all []stretch
	var visit func(v reflect.Value)
	visit = func(v reflect.Value) {
		switch v.Kind() {
		case reflect.Struct:
			for i := range v.NumField() {
				visit(v.Field(i))
			}
		case reflect.Slice:
			if size := uintptr(v.Cap()) * v.Type().Elem().Size(); size > 0 {
				all = append(all, stretch{v.Pointer(), v.Pointer() + size})
			}
			for i := range v.Len() {
				visit(v.Index(i))
			}
		}
	}
	visit(reflect.ValueOf(v))
	return all
}

// apart tells whether no two lists in all of these share memory.
func apart(all ...any) bool {
	var found []stretch
	for _, v := range all {
		found = append(found, stretches(v)...)
	}
	slices.SortFunc(found, func(a, b stretch) int {
		if a.from < b.from {
			return -1
		}
		return 1
	})
	for i := 1; i < len(found); i++ {
		if found[i].from < found[i-1].to {
			return false
		}
	}
	return true
}
