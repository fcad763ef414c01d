package net

import "headland/api"

// Weather says what becomes of the next calls.
func (n *Net) Weather(l ...int) { n.weather = append(n.weather, l...) }

// Ahead is how many numbers wait.
func (n *Net) Ahead() int { return len(n.weather) }

// Fate is what becomes of a call.
func (n *Net) Fate() int {
	if len(n.weather) == 0 {
		return api.Done
	}
	number := n.weather[0]
	n.weather = n.weather[1:]
	return fateOf(number)
}

// fateOf is a number's fate. Its lowest three bits are its rest modulo 8, from 0 on, of numbers below 0 too.
func fateOf(number int) int {
	switch number & 7 {
	case 4:
		return api.LostRequest
	case 5:
		return api.LostReply
	case 6:
		return api.Delayed
	case 7:
		return api.Twice
	}
	return api.Done
}
