"""Everyseat: worths from every seat of a tree."""
