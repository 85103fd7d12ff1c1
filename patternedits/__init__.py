"""Finding and replacing by patterns in tracked text."""
