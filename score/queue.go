package score

// place is a spot, and what it cost to come there when it was put into the queue.
type place struct {
	spot
	cost int
}

// queue is a heap of places, the one that costs least on top.
type queue []place

func (q queue) Len() int { return len(q) }

func (q queue) Less(i, j int) bool { return q[i].cost < q[j].cost }

func (q queue) Swap(i, j int) { q[i], q[j] = q[j], q[i] }

// Push is for the heap alone.
func (q *queue) Push(x any) { *q = append(*q, x.(place)) }

// Pop is for the heap alone.
func (q *queue) Pop() any {
	last := (*q)[len(*q)-1]
	*q = (*q)[:len(*q)-1]
	return last
}
