"""What the lanes of streams do: rules of any kind."""
