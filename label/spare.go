package label

// spare are labels that were freed, as a heap (container/heap): so the least one is at hand, however many there are.
type spare []int

func (s spare) Len() int           { return len(s) }
func (s spare) Less(i, j int) bool { return s[i] < s[j] }
func (s spare) Swap(i, j int)      { s[i], s[j] = s[j], s[i] }

// Push puts one at the end.
func (s *spare) Push(x any) { *s = append(*s, x.(int)) }

// Pop takes the one at the end.
func (s *spare) Pop() any {
	end := len(*s) - 1
	label := (*s)[end]
	*s = (*s)[:end]
	return label
}
