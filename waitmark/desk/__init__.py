"""What is written and read, and a desk at which a line is led by texts."""
