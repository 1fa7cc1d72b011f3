"""The rules by which something is struck: late ones and share ones."""
