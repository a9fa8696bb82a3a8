"""A switch that learns, with VLANs."""
