// Package ways: how far it is from each site of an instance to each other.
package ways

import (
	"depot/api"
	"depot/instance"
)

// net holds the least length of a walk from each road node to each other, None where no walk is known.
type net struct {
	nodes int
	far   [api.MaxNodes][api.MaxNodes]int
}

// Between tells for each site the ways to each site; nothing, if x is no instance: its nodes could lie outside the net.
func Between(x api.Instance) [][]int {
	fault := instance.Fault(x)
	if fault != api.OK {
		return nil
	}
	n := &net{nodes: x.Nodes}
	n.clear()
	for i := 0; i < len(x.Roads); i++ {
		r := x.Roads[i]
		n.shorten(r.A, r.B, r.Len)
	}
	n.join()
	sites := siteNodes(x)
	return n.table(sites)
}

// siteNodes tells the road node of each site.
func siteNodes(x api.Instance) []int {
	list := []int{x.Home}
	for i := 0; i < len(x.Stops); i++ {
		list = append(list, x.Stops[i].Node)
	}
	return list
}

// clear leaves the walks without roads alone: from each node to itself.
func (n *net) clear() {
	for a := 0; a < n.nodes; a++ {
		for b := 0; b < n.nodes; b++ {
			n.far[a][b] = api.None
		}
		n.far[a][a] = 0
	}
}

func (n *net) shorten(a int, b int, length int) {
	if n.far[a][b] == api.None || length < n.far[a][b] {
		n.far[a][b] = length
	}
}

// join makes walks of two walks, at one node after the other. The node of the joint is the outermost loop: a walk between two nodes is then least over all walks whose inner nodes have had their turn.
func (n *net) join() {
	for via := 0; via < n.nodes; via++ {
		for a := 0; a < n.nodes; a++ {
			for b := 0; b < n.nodes; b++ {
				if n.far[a][via] != api.None && n.far[via][b] != api.None {
					n.shorten(a, b, n.far[a][via]+n.far[via][b])
				}
			}
		}
	}
}

// table makes each row by itself: rows cut from one list would share their spare room.
func (n *net) table(sites []int) [][]int {
	rows := make([][]int, len(sites))
	for i := 0; i < len(sites); i++ {
		row := make([]int, len(sites))
		for j := 0; j < len(sites); j++ {
			row[j] = n.far[sites[i]][sites[j]]
		}
		rows[i] = row
	}
	return rows
}
