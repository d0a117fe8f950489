package mender

import (
	"mender/api"
	"mender/wire"
)

const maxBurst = 1000000 // bytes

func configFits(c api.Config) bool {
	return between(c.Ring, 1, api.MaxRing) &&
		between(c.Window, 1, api.MaxWindow) &&
		between(c.Delay, 0, api.MaxTime) &&
		between(c.Rate, 0, api.MaxRate) &&
		between(c.Burst, 0, maxBurst) &&
		between(c.Retry, 1, api.MaxTime) &&
		between(c.Tries, 0, api.MaxTries)
}

func wantFits(w api.Want) bool {
	return between(w.Source, 0, api.MaxSource) &&
		between(w.Second, 0, api.MaxSource) &&
		between(w.Type, 0, wire.MaxType) &&
		between(w.SecondType, 0, wire.MaxType) &&
		between(w.First, 0, wire.MaxNumber) &&
		between(w.SecondFirst, 0, wire.MaxNumber) &&
		w.Source != w.Second
}

func between(n, least, most int) bool {
	return n >= least && n <= most
}
