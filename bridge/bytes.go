package bridge

import (
	"causeway/api"
	"causeway/contract"
)

// Header writes a config.
func Header(c api.Config) ([]byte, api.Errno) {
	if _, e := contract.New(c); e != api.OK {
		return nil, e
	}
	return headerForm().write(header{kind: headerKind, config: c})
}

// Bytes writes an order.
func Bytes(o api.Order) ([]byte, api.Errno) {
	f := orderForm()
	if !f.fits(&o) {
		return nil, api.ErrBridgeOrder
	}
	return f.write(o)
}

// Read reads one.
func Read(b []byte) (api.Order, api.Errno) {
	o, err := orderForm().read(b)
	if isGivenUp(err) {
		return api.Order{}, api.ErrBridgeOrder
	}
	return o, api.OK
}

// readHeader reads a config, which may be one that no contract takes.
func readHeader(b []byte) (api.Config, api.Errno) {
	h, err := headerForm().read(b)
	if isGivenUp(err) {
		return api.Config{}, api.ErrBridgeHeader
	}
	return h.config, api.OK
}
