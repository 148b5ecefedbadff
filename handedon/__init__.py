"""Handedon: givers that hand out worths and hand on to one another."""
