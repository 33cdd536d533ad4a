"""Roundfence: two readers on two rounds, and what bars them."""
