"""Hearthrules: a house's rules, written, run and held against one another."""
