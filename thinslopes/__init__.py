"""thinslopes: thin tables of slopes, known by few products."""
