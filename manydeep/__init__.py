"""Manydeep: webs all of whose ties are replaced, round by round."""
