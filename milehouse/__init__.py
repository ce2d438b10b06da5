"""Miles that run out: the accounts of a house of travellers."""
