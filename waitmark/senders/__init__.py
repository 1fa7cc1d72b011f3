"""Senders that obey what they hear, the worlds they make with a line, and the rings these come to."""
