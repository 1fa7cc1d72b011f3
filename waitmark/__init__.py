"""Waitmark: a line that drops or marks early by how long things wait, dealt by shares."""
