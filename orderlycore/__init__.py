"""Orderly core: a processor that works out of order, and is never seen to."""
