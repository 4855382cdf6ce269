"""The cheapest true sentences to say aloud, so that the right people know a fact and others do not."""
