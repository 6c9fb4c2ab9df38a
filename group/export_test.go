package group

// Post puts a body into flight that no node sent: by the rules of nodes none comes there that is no wire, nor one of a message that breaks the group.
func Post(g *Group, from, to int, body string) { g.mesh.Send(from, to, body) }

// Records is how many records the store of a node has that is up; 0 of others. When a store is packed shows nowhere else.
func Records(g *Group, id int) int {
	n, _ := g.up(id)
	if n == nil {
		return 0
	}
	return n.work.store.Count()
}
