"""A recorder that loses nothing but what it tells as lost."""
