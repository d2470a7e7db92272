package colour

import "luminaire/api"

const (
	sixth  = 1000 // the hues from red to yellow, from there to green, and so on
	circle = 6 * sixth
)

// greatest returns the greatest level of a colour.
func greatest(rgb [3]int) int {
	return max(rgb[0], rgb[1], rgb[2])
}

// least returns the least level of a colour.
func least(rgb [3]int) int {
	return min(rgb[0], rgb[1], rgb[2])
}

// saturation returns how far a colour is from grey.
func saturation(rgb [3]int) int {
	m := greatest(rgb)
	if m == 0 {
		return 0
	}
	return (2*api.MaxLevel*(m-least(rgb)) + m) / (2 * m)
}

// hue returns where a colour is on the circle: red at 0, green at two sixths, and blue at four.
func hue(rgb [3]int) int {
	red, green, blue := rgb[0], rgb[1], rgb[2]
	m := greatest(rgb)
	d := m - least(rgb)
	switch {
	case d == 0:
		return 0
	case m == red:
		return (circle + turn(green-blue, d)) % circle
	case m == green:
		return 2*sixth + turn(blue-red, d)
	}
	return 4*sixth + turn(red-green, d)
}

// turn returns the part n / d of a sixth, rounded down, where n is from -d to d.
func turn(n, d int) int {
	// Division rounds towards 0, which is down only for what is not negative, as n + d is.
	return sixth*(n+d)/d - sixth
}
