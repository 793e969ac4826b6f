"""Two hands meet: one goes with what both had, the other with all that follows."""
