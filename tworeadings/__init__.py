"""Words, texts put together of them, read in one way at the most, and what shows it."""
