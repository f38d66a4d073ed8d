"""Pictures made of smaller copies of themselves."""
