"""Everyplace: forms of the second degree, their zeros, and the places that bar them."""
