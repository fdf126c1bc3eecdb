"""How functions stand in for one another, and which rights they need."""
