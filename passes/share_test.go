package passes

import (
	"cmp"
	"reflect"
	"slices"
)

// roomy is a copy of what is given, in which each list has room to spare.
func roomy(v reflect.Value) reflect.Value {
	made := reflect.New(v.Type()).Elem()
	switch v.Kind() {
	case reflect.Slice:
		if v.IsNil() {
			break
		}
		made.Set(reflect.MakeSlice(v.Type(), v.Len(), v.Len()+2))
		for i := range v.Len() {
			made.Index(i).Set(roomy(v.Index(i)))
		}
	case reflect.Struct:
		for i := range v.NumField() {
			made.Field(i).Set(roomy(v.Field(i)))
		}
	default:
		made.Set(v)
	}
	return made
}

// isRoomy tells whether all room to spare in lists is empty yet.
func isRoomy(v reflect.Value) bool {
	switch v.Kind() {
	case reflect.Slice:
		for i := range v.Cap() {
			if e := v.Slice(0, v.Cap()).Index(i); i >= v.Len() && !e.IsZero() || i < v.Len() && !isRoomy(e) {
				return false
			}
		}
	case reflect.Struct:
		for i := range v.NumField() {
			if !isRoomy(v.Field(i)) {
				return false
			}
		}
	}
	return true
}

// span is the memory of a list, its spare room too.
type span struct {
	from, to uintptr
	answered bool
}

func spansOf(v reflect.Value, answered bool, spans []span) []span {
	switch v.Kind() {
	case reflect.Slice:
		if n := uintptr(v.Cap()) * v.Type().Elem().Size(); n > 0 {
			spans = append(spans, span{v.Pointer(), v.Pointer() + n, answered})
		}
		for i := range v.Len() {
			spans = spansOf(v.Index(i), answered, spans)
		}
	case reflect.Struct:
		for i := range v.NumField() {
			spans = spansOf(v.Field(i), answered, spans)
		}
	}
	return spans
}

// sharing tells whether a list of an answer shares memory with another one of it or of what was given.
func sharing(given, answer any) bool {
	spans := spansOf(reflect.ValueOf(answer), true, spansOf(reflect.ValueOf(given), false, nil))
	slices.SortFunc(spans, func(a, b span) int { return cmp.Compare(a.from, b.from) })
	var ends, answers uintptr // of all, of the answer's
	for _, s := range spans {
		if s.from < answers || s.answered && s.from < ends {
			return true
		}
		ends = max(ends, s.to)
		if s.answered {
			answers = max(answers, s.to)
		}
	}
	return false
}
