package mach

import (
	"alembic/api"
)

// Size is how many bytes a chunk has.
func Size(chunk int) int {
	switch chunk {
	case api.C8S, api.C8U:
		return 1
	case api.C16S, api.C16U:
		return 2
	case api.C32:
		return 4
	case api.C64, api.CF64:
		return 8
	}
	return 0
}

// Kind is the kind of a chunk's values.
func Kind(chunk int) int {
	switch chunk {
	case api.C8S, api.C8U, api.C16S, api.C16U, api.C32:
		return api.Int
	case api.C64:
		return api.Long
	case api.CF64:
		return api.Double
	}
	return 0
}
