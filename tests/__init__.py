"""The tests of heardagain; run them by python3 -m unittest discover -s tests -t ."""
