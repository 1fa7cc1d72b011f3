"""What the lanes of streams do: rules of any kind, pieces that come and go out, turns."""
