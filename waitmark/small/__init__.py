"""Small runs of one lane or two, all of them gone through; and loads that a bucket lets in."""
