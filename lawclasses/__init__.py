"""Classes with laws, and their finite instances."""
