"""Stakecrates: bottles that come back for a sum, and the crates they lie in."""
