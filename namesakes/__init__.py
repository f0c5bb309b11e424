"""Who can bear whose name, by a custom of naming."""
