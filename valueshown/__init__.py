"""Where a name's value lies while one steps through made code."""
