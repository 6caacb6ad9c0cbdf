"""Lagshift: registers moved along the wires of a net, so that its beat is least."""
