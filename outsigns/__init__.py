"""Signs at the nodes of a net that lead through all that is still joined, whichever links are closed."""
