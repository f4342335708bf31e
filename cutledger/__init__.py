"""Cutledger: a store that is cut off anywhere and comes back."""
