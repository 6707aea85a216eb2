"""Tests of opengates; run them with `python3 -m unittest discover -s tests -t .`."""
