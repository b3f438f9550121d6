package trace

import (
	"strconv"
	"strings"

	"alembic/api"
)

// Text is what a run shows, line by line.
func Text(o api.Outcome) string {
	var b strings.Builder
	for _, e := range o.Trace {
		writeEvent(&b, e)
	}
	b.WriteString(endText(o))
	b.WriteByte('\n')
	return b.String()
}

func writeEvent(b *strings.Builder, e api.Event) {
	b.WriteString(e.Name)
	b.WriteByte('(')
	for i, arg := range e.Args {
		if i > 0 {
			b.WriteString(", ")
		}
		b.WriteString(valueText(arg))
	}
	b.WriteByte(')')
	if e.Result.Kind != api.Undef {
		b.WriteString(" = ")
		b.WriteString(valueText(e.Result))
	}
	b.WriteByte('\n')
}

func valueText(v api.Value) string {
	switch v.Kind {
	case api.Int:
		return strconv.Itoa(int(int32(v.Bits)))
	case api.Long:
		return strconv.FormatInt(int64(v.Bits), 10) + "L"
	case api.Double:
		return bitsText(v.Bits)
	case api.Ptr:
		return "ptr"
	}
	return "undef"
}

// bitsText is sixteen digits of base sixteen, the highest first.
func bitsText(bits uint64) string {
	digits := strconv.FormatUint(bits, 16)
	return "0x" + strings.Repeat("0", 16-len(digits)) + digits
}

func endText(o api.Outcome) string {
	switch o.Status {
	case api.Running:
		return "running"
	case api.Exited:
		return "exited " + strconv.Itoa(int(o.Code))
	case api.Wrong:
		return "wrong"
	case api.StackOut:
		return "stack out"
	}
	return "unknown"
}
