"""Heights that keep bounds and are pulled together; ranks."""
