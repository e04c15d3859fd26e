package vault

import (
	"slices"

	"imprimatur/api"
)

const (
	keySize  = len(api.Digest{}) // bytes
	maxValue = 1000              // bytes
)

// pack: an entry's record.
func pack(key api.Digest, value []byte) []byte { return slices.Concat(key[:], value) }

// unpack: the entry that a record is; false if it is none.
func unpack(rec []byte) (api.Digest, []byte, bool) {
	if len(rec) < keySize || len(rec) > keySize+maxValue {
		return api.Digest{}, nil, false
	}
	return api.Digest(rec), rec[keySize:], true
}
