"""Layworld: small worlds laid together, and the world that is grown by all wishes."""
