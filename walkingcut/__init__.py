"""Walkingcut: which claims about a rack of spilled vials can be true."""
