package hook

import (
	"backstitch/api"
	"backstitch/real"
	"backstitch/tensor"
)

// wrong tells whether h may not be a hook. It asks for what holds, so that a NaN, of which nothing holds, is wrong.
func wrong(h api.Hook) bool {
	switch h.Do {
	case api.Scale:
		return false
	case api.Clip:
		return !(h.X >= 0)
	case api.Zero, api.Finite:
		return h.X != 0
	}
	return true
}

// made is what a hook's step is made of.
type made api.Hook

// step answers what h does, with its own X; it wants an h that is not wrong.
func step(h made) func(api.Tensor) (api.Tensor, api.Errno) {
	switch h.Do {
	case api.Scale:
		return h.scale
	case api.Clip:
		return h.clip
	case api.Zero:
		return h.zero
	}
	return h.finite
}

func (h made) scale(t api.Tensor) (api.Tensor, api.Errno) {
	return tensor.Map(t, h.times), api.OK
}

func (h made) clip(t api.Tensor) (api.Tensor, api.Errno) {
	return tensor.Map(t, h.within), api.OK
}

// zero takes no heed of X, which may be -0.
func (h made) zero(t api.Tensor) (api.Tensor, api.Errno) {
	return tensor.New(t.Shape, 0)
}

func (h made) finite(t api.Tensor) (api.Tensor, api.Errno) {
	if !tensor.Finite(t) {
		return api.Tensor{}, api.ErrHook
	}
	return t, api.OK
}

func (h made) times(x float64) float64 {
	return float64(real.Real(x).Times(real.Real(h.X)))
}

// within leaves a NaN as it is: it is neither below nor above.
func (h made) within(x float64) float64 {
	switch {
	case x < -h.X:
		return -h.X
	case x > h.X:
		return h.X
	}
	return x
}
