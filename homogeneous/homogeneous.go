// Package homogeneous is what curves and surfaces need to compute with poles: their
// homogeneous coordinates, of which sums and shares are formed.
package homogeneous

import (
	"brepkernel/api"
	"brepkernel/numbers"
	"brepkernel/rational"
)

// Pole is a pole in homogeneous coordinates: W x, W y, W z and W.
type Pole [4]api.Rat

// Make returns what f makes of the indices of the coordinates.
func Make(f func(i int) api.Rat) Pole {
	var out Pole
	for i := range out {
		out[i] = f(i)
	}
	return out
}

// Of returns the homogeneous coordinates of a pole.
func Of(p api.Pole) Pole {
	return Make(func(i int) api.Rat {
		if i < 3 {
			return rational.Mul(p.W, p.P[i])
		}
		return p.W
	})
}

// Plain returns the pole with these coordinates, with memory of its own.
func (q Pole) Plain() api.Pole {
	out := api.Pole{W: numbers.Copy(q[3])}
	for i := range out.P {
		out.P[i] = numbers.Over(q[i], q[3])
	}
	return out
}

// Between returns the coordinates for this share of the way from q to r.
func (q Pole) Between(r Pole, share api.Rat) Pole {
	return Make(func(i int) api.Rat {
		return rational.Add(q[i], rational.Mul(share, rational.Sub(r[i], q[i])))
	})
}

// Sum returns the sum of poles, each times its share.
func Sum(shares []api.Rat, pole func(i int) Pole) Pole {
	var sum Pole
	for j, share := range shares {
		q := pole(j)
		sum = Make(func(i int) api.Rat { return rational.Add(sum[i], rational.Mul(share, q[i])) })
	}
	return sum
}
