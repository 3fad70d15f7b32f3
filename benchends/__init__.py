"""Benchends: works whose ends came in a told order."""
