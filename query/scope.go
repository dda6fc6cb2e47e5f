package query

import "veil/api"

// inScope: is each variable that a query uses one of its spots', and, of a set, the term a number or a property of the variable that is set?
func inScope(q api.Query) bool {
	for _, name := range used(q) {
		if name != "" && !hasSpot(q.Spots, name) {
			return false
		}
	}
	return q.Kind != api.Set || q.Value.Name == "" || q.Value.Name == q.Name
}

// used lists the variables that stand behind the spots; a number or COUNT is told as an empty one.
func used(q api.Query) []string {
	var names []string
	for _, c := range q.Conds {
		names = append(names, c.A.Name, c.B.Name)
	}
	for _, item := range q.Items {
		names = append(names, item.Name)
	}
	if q.Kind != api.Call { // the name there is a view's
		names = append(names, q.Name, q.To)
	}
	return names
}

func hasSpot(spots []api.Spot, name string) bool {
	for _, spot := range spots {
		if spot.Name == name {
			return true
		}
	}
	return false
}
