package granule

import "granule/api"

func within(n int, low int, high int) bool {
	return n >= low && n <= high
}

func validConf(c api.Conf) bool {
	if !within(c.Static, 0, api.MaxStatic) {
		return false
	}
	if !within(c.Rest, 0, api.MaxRest) {
		return false
	}
	return validClasses(c.Classes)
}

func validClasses(list []api.Class) bool {
	if !within(len(list), 1, api.MaxClasses) {
		return false
	}
	ahead := 0
	for i := 0; i < len(list); i++ {
		// Starting ahead at 0 makes one rule serve both: at least 1, and more than the class ahead.
		if !within(list[i].Granules, ahead+1, api.MaxGranules) {
			return false
		}
		if !within(list[i].Slots, 1, api.MaxSlots) {
			return false
		}
		ahead = list[i].Granules
	}
	return true
}
