"""Probewell: machines told apart, gathered, tested and learned by rows of asks."""
