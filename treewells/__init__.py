"""Treewells: roads that make a tree, and for every question an answer and a paper as great."""
