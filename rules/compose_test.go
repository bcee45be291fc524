package rules

import (
	"testing"

	"weighted/api"
	"weighted/compose"
	"weighted/samples"
)

func TestCompose(t *testing.T) {
	for _, text := range texts() {
		a, all := transducers(t, text)
		large := samples.Copying(samples.Sized(a.Ring, api.MaxStates, api.MaxStates))
		large.In, large.Out = a.Symbols, a.Symbols
		strange := samples.Copying(samples.Sized(api.Ring{Kind: api.Product, Parts: []int{api.Sets, api.Sets}}, 2, 3))
		all = append(all, large, strange)
		for _, x := range all {
			for _, y := range all {
				obey(t, compose.Compose, x, y)
			}
		}
	}
}
