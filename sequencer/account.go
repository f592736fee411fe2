package sequencer

// account is what the sequencer has of a client.
type account struct {
	queue  []waiting
	credit int
}

// waiting is a transaction in a queue.
type waiting struct {
	id       int
	text     string
	cost     int
	deadline int
}

func (a *account) join(w waiting) {
	a.queue = append(a.queue, w)
}

func (a *account) awaits(id int) bool {
	for i := 0; i < len(a.queue); i++ {
		if a.queue[i].id == id {
			return true
		}
	}
	return false
}

// takeLate takes those out of the queue whose deadline is less than n, wherever they stand in it.
func (a *account) takeLate(n int) []waiting {
	var late []waiting
	var left []waiting
	for i := 0; i < len(a.queue); i++ {
		if a.queue[i].deadline < n {
			late = append(late, a.queue[i])
		} else {
			left = append(left, a.queue[i])
		}
	}
	a.queue = left
	return late
}

// visit gives the client its credit, and takes those off the front of the queue for which credit and room are enough.
func (a *account) visit(quantum int, room int) []waiting {
	if len(a.queue) > 0 {
		a.credit += quantum
	}
	count := 0
	for count < len(a.queue) && a.queue[count].cost <= a.credit && a.queue[count].cost <= room {
		a.credit -= a.queue[count].cost
		room -= a.queue[count].cost
		count++
	}
	taken := a.takeFront(count)
	if len(a.queue) == 0 {
		a.credit = 0
	}
	return taken
}

// takeFront lays the rest into a fresh queue, so that what has left is not kept behind it.
func (a *account) takeFront(count int) []waiting {
	var front []waiting
	var left []waiting
	for i := 0; i < len(a.queue); i++ {
		if i < count {
			front = append(front, a.queue[i])
		} else {
			left = append(left, a.queue[i])
		}
	}
	a.queue = left
	return front
}
