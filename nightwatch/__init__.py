"""Nightwatch: errands in groups, done row by row by a told clock and order."""
