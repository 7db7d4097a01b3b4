"""Handedpast: exact loads on a track where carriers cannot pass each other."""
