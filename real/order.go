package real

// byHalves does what is asked with the two halves of l, each done before; the first is the greater if they are unlike.
// One number stays as it is, not done with 0, so that a -0 keeps its sign.
func byHalves(l []float64, do func(a, b Real) Real) Real {
	switch len(l) {
	case 0:
		return 0
	case 1:
		return Real(l[0])
	}
	half := len(l) - len(l)/2
	return do(byHalves(l[:half], do), byHalves(l[half:], do))
}

// inTurn does what is asked with what there is so far and each number of l.
func inTurn(sofar Real, l []float64, do func(a, b Real) Real) Real {
	for _, x := range l {
		sofar = do(sofar, Real(x))
	}
	return sofar
}
