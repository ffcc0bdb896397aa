"""Heardagain: what comes again in scores of notes."""
