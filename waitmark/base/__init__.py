"""What all else stands on: whole numbers, comers, roots, and the plain line."""
