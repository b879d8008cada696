"""A Code in editions: what's available, what's sure, what would settle it."""
