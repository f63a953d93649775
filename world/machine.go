package world

import (
	"betatron/api"
	"betatron/converter"
	"betatron/exact"
	"betatron/expand"
	"betatron/lattice"
	"betatron/magnet"
	"betatron/mode"
	"betatron/permitlogic"
	"betatron/zone"
)

const (
	mostVariant  = 3
	mostCurrent  = 1000
	currentStep  = 250
	relayUp      = 300
	relayDown    = 100
	evenWeight   = 2000
	oddWeight    = 8000
	calibration  = 500
	mostStrength = 1000000
	placeCount   = 7
	corrector    = 5 // the place of h

	longRing  = "lattice machine { monitor m ; quad qf ; quad qd ; drift d length 1 ; corrector h plane h ; collimator col aperture 1/100 ; line ring = m qf d qd d h col ; use ring ; }"
	shortRing = "lattice machine { monitor m ; quad qf ; quad qd ; drift d length 1/2 ; corrector h plane h ; collimator col aperture 1/100 ; line ring = m qf d qd d h col ; use ring ; }"

	firstLogic  = "permit local = vacuum ;"
	secondLogic = "permit local = magnets & losses ;"

	modeText = `mode off { next setup , access ; }
mode setup inject { require converters = on ; require zone = closed ; require optics = stable ; next off , physics ; }
mode physics inject { require converters = on ; require zone = closed ; require permit = given ; require optics = stable ; next off ; }
mode access { require converters = off ; require beam = out ; next off ; }`
)

// families returns the names of the magnets.
func families() []string { return []string{"qf", "qd"} }

// isEven reports whether a variant is even.
func isEven(variant int) bool { return variant%2 == 0 }

// ring returns the ring of a variant, whose magnets have no strength.
func ring(variant int) api.Beamline {
	text := longRing
	if variant > 1 {
		text = shortRing
	}
	l, _, _ := lattice.Parse(text)
	b, _ := expand.Expand(l, "")
	return b
}

// specs returns the descriptions of the magnets.
func specs(variant int) []api.MagnetSpec {
	weight := oddWeight
	if isEven(variant) {
		weight = evenWeight
	}
	var l []api.MagnetSpec
	for i, name := range families() {
		most := mostStrength
		if i > 0 {
			most = -mostStrength
		}
		l = append(l, api.MagnetSpec{
			Name:   name,
			Curve:  api.Curve{Points: []api.Point{{}, {X: mostCurrent, Y: most}}},
			Relays: []api.Relay{{Up: relayUp, Down: relayDown, Weight: weight}},
			Error:  calibration,
		})
	}
	return l
}

// newConverter returns a converter as it is at the beginning.
func newConverter() api.Converter {
	c, _ := converter.New(0, mostCurrent, currentStep)
	return c
}

// configuration returns the protection of a variant.
func configuration(variant int) api.Protection {
	first, _, _ := permitlogic.Parse(firstLogic)
	second, _, _ := permitlogic.Parse(secondLogic)
	area, _ := zone.New(1, 1, 1)
	delay := 1
	if isEven(variant) {
		delay = 0
	}
	return api.Protection{
		Inputs: []api.Input{
			{Name: "vacuum", MaxAge: 5, Rising: 1, Falls: 1},
			{Name: "magnets", MaxAge: 5, Rising: 1, Falls: 1},
			{Name: "losses", MaxAge: 5, Rising: 1, Falls: 2},
		},
		Owner: []int{0, 1, 1},
		Masks: api.MaskTable{
			Maskable: []bool{false, false, true},
			Limits:   api.Curve{Points: []api.Point{{X: 0, Y: 4}, {X: 1000, Y: 1}}},
			MaxAge:   5,
		},
		Logic:   []api.Logic{first, second},
		Network: api.Network{Stations: []api.Station{{Name: "s0"}, {Name: "s1"}}, Detect: 5},
		Zone:    area,
		Delay:   delay,
	}
}

// modes returns the table of the modes.
func modes() api.ModeTable {
	t, _, _ := mode.Parse(modeText)
	return t
}

// optics returns the ring with the middle strengths of a world without error, and the strengths.
func optics(w api.World) (api.Beamline, []api.Interval) {
	var work exact.Work
	var intervals []api.Interval
	var middles []api.Ratio
	for i, spec := range specs(w.Variant) {
		s, _ := magnet.Strength(spec, w.Converters[i].Current, w.Magnets[i])
		intervals = append(intervals, s)
		middles = append(middles, work.Div(work.Add(s.Low, s.High), exact.Whole(2)))
	}
	b, _ := magnet.Dress(ring(w.Variant), families(), middles)
	return b, intervals
}
