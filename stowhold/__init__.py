"""Boxes in a ship's stacks, and the fewest lifts to come at them."""
