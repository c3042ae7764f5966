package run

// modulus of all that is mixed.
const modulus = 1000003

// Mix numbers into one.
func Mix(l []int) int { return mixed(7, l) }

// mixed: numbers into what there is.
func mixed(mix int, l []int) int {
	for _, n := range l {
		// What is left of n may be below 0, and n itself too great for a sum.
		mix = (31*mix + n%modulus + modulus) % modulus
	}
	return mix
}
