"""Claims: what they are, and what is made of them."""
