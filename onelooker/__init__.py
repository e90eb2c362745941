"""Onelooker: deciding clauses over several theories that share names alone."""
