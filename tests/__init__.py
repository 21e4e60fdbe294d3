"""The tests of onlytell, for `python3 -m unittest`."""
