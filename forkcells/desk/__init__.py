"""A desk on which functions are changed, and claims about them hold."""
